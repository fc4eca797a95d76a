/-
  Small laws on memory, of no program: a set K of blocks that a call leaves alone (Kept), a row of one-cell elements that a slice value owns outside K (Own), and what append and a conversion do to it.
  Small laws on memory, of no program: a slice that owns elements of any size (OwnZ), append onto it, and apart from others.
  Rows of memory beside one another (of no program): each is owned by itself; one of them grows, the others stay.
  References to characters as plain functions on lists of bytes, and what holds of them. No program is named here.
  Kinds of names, as plain functions on lists of bytes.
  Tokens as plain functions on lists of bytes: what the reader of the program does at each step. No program is named here.
  Texts as they are written, as plain functions on lists of bytes, and what holds of them. No program is named here.
  The reader of tokens as plain functions: how far it comes, how much room it wants, what it makes of plain bytes; tokens in memory. No program is named.
  Rows of nodes as doubly linked lists, plain functions (of no program): taking one out, putting one in.
  The document in memory (DX): its nodes lie in one row of 22 cells each, apart from K; each node's attributes in a row of their own.
  Leaves of the document: where a node and its links lie.
-/
import Derived.WalkKit
import Derived.WalkSpells
import Derived.WalkLawsBesides
import Derived.Deep.Upon
import Derived.Laws.IdiomStrings
import Derived.Laws.Runes
import Derived.Laws.Cover4
import Derived.Test.YthhoicmfmfeehaaGreatProg
import Derived.Deep.LoopGhost
import Derived.Deep.Cut
import Derived.Deep.RegionWith
import Derived.Deep.RegionHeld3
import Derived.Deep.RegionLaw
import Derived.Deep.QuietTactic
import Derived.BigQuiet
namespace Go.Proofs.YthhoicmfmfeehaaGreat
open Go.RowKit

/-- A byte as a cell. -/
abbrev bv (c : UInt8) : Value := .int .u8 (c.toNat : Int)
def bvs (l : List UInt8) : List Value := l.map bv
theorem bvs_length (l : List UInt8) : (bvs l).length = l.length := by simp [bvs]
theorem bvs_append (l m : List UInt8) : bvs (l ++ m) = bvs l ++ bvs m := by simp [bvs]
theorem bvs_take (l : List UInt8) (k : Nat) : bvs (l.take k) = (bvs l).take k := by simp [bvs, List.map_take]
theorem bvs_one (l : List UInt8) : ∀ u ∈ bvs l, u.oneCell' = true := by
  intro u hu
  obtain ⟨c, _, rfl⟩ := List.mem_map.1 hu
  rfl

/-- The blocks of K are as they were. -/
structure Kept (K : Nat → Prop) (w w' : World) : Prop where
  os : w'.os = w.os
  tape : w'.tape = w.tape
  output : w'.output = w.output
  size : w.heap.size ≤ w'.heap.size
  block : ∀ k, K k → w'.heap[k]? = w.heap[k]?

theorem Kept.refl (K : Nat → Prop) (w : World) : Kept K w w := ⟨rfl, rfl, rfl, Nat.le_refl _, fun _ _ => rfl⟩
theorem Kept.trans {K : Nat → Prop} {a b c : World} (h : Kept K a b) (k : Kept K b c) : Kept K a c :=
  ⟨k.os.trans h.os, k.tape.trans h.tape, k.output.trans h.output, Nat.le_trans h.size k.size, fun i hi => (k.block i hi).trans (h.block i hi)⟩
theorem Kept.mono {K K' : Nat → Prop} {w w' : World} (h : Kept K w w') (hK : ∀ k, K' k → K k) : Kept K' w w' :=
  ⟨h.os, h.tape, h.output, h.size, fun k hk => h.block k (hK k hk)⟩
theorem Kept.drew {K : Nat → Prop} {a w : World} (h : Kept K a w) : Kept K a w.drew := ⟨h.os, h.tape, h.output, h.size, h.block⟩
theorem Kept.drewN {K : Nat → Prop} {a w : World} (h : Kept K a w) (n : Nat) : Kept K a (w.drewN n) := ⟨h.os, h.tape, h.output, h.size, h.block⟩
theorem Kept.alloc {K : Nat → Prop} {a w : World} (h : Kept K a w) (hK : ∀ k, K k → k < w.heap.size) (o : Obj) : Kept K a (w.alloc o) :=
  h.trans ⟨rfl, rfl, rfl, by simp, fun k hk => Below.heap_alloc _ _ _ (hK k hk)⟩
theorem Kept.setCell {K : Nat → Prop} {a w : World} (h : Kept K a w) {p : Addr} (hp : ¬ K p.block) (u : Value) : Kept K a (w.setCell p u) :=
  h.trans ⟨rfl, rfl, rfl, by simp, fun k hk => Below.heap_setCell _ _ _ _ (fun e => hp (e ▸ hk))⟩
theorem Kept.cell {K : Nat → Prop} {w w' : World} (h : Kept K w w') {p : Addr} (hp : K p.block) : w'.cell? p = w.cell? p := World.cell?_of_block (w := w) (h.block p.block hp)
theorem Kept.frozen {K : Nat → Prop} {w w' : World} (h : Kept K w w') {p : Addr} (hp : K p.block) : w'.frozen? p = w.frozen? p := World.frozen?_of_block (w := w) (h.block p.block hp)
theorem Kept.below {B : Nat} {w w' : World} (h : Kept (fun k => k < B) w w') : Below B w w' := ⟨h.os, h.tape, h.output, h.size, h.block⟩
theorem Below.kept {B : Nat} {w w' : World} (h : Below B w w') : Kept (fun k => k < B) w w' := ⟨h.os, h.tape, h.output, h.size, h.block⟩

theorem heap_drew (w : World) : w.drew.heap = w.heap := rfl
/-- A cell of a block that is known whole. -/
theorem cell_block {w : World} {b : Nat} {cur : Array Value} {e : TypeId} {f : Nat × Nat} (h : w.heap[b]? = some (.cells cur e f)) (i : Nat) : w.cell? ⟨b, i, none⟩ = cur[i]? := by
  simp [World.cell?, h]
theorem frozen_block {w : World} {b : Nat} {cur : Array Value} {e : TypeId} (h : w.heap[b]? = some (.cells cur e (0, 0))) (i : Nat) : w.frozen? ⟨b, i, none⟩ = false := by
  simp [World.frozen?, h]
theorem lt_block {w : World} {b : Nat} {o : Obj} (h : w.heap[b]? = some o) : b < w.heap.size := by
  rcases Nat.lt_or_ge b w.heap.size with hlt | hge
  · exact hlt
  · rw [Array.getElem?_eq_none hge] at h; cases h
theorem heap_setCell_at {w : World} {b : Nat} {cur : Array Value} {e : TypeId} {f : Nat × Nat} (h : w.heap[b]? = some (.cells cur e f)) (i : Nat) (v : Value) :
    (w.setCell ⟨b, i, none⟩ v).heap[b]? = some (.cells (cur.setIfInBounds i v) e f) := by
  simp [World.setCell, Array.getElem?_modify, h]
theorem heap_alloc_past {w : World} {b : Nat} {o : Obj} (h : w.heap[b]? = some o) (p : Obj) : (w.alloc p).heap[b]? = some o := by
  rw [Below.heap_alloc _ _ _ (lt_block h), h]
theorem heap_setCells_at {b : Nat} {e : TypeId} {f : Nat × Nat} : ∀ (vs : List Value) (o : Nat) (w : World) (cur : Array Value), w.heap[b]? = some (.cells cur e f) → o + vs.length ≤ cur.size →
    ∃ c', (w.setCells b o vs).heap[b]? = some (.cells c' e f) ∧ c'.toList = cur.toList.take o ++ vs ++ cur.toList.drop (o + vs.length)
  | [], o, w, cur, h, _ => ⟨cur, h, by simp⟩
  | v :: r, o, w, cur, h, hl => by
    simp only [List.length_cons] at hl
    obtain ⟨c', h1, h2⟩ := heap_setCells_at (b := b) (e := e) (f := f) r (o + 1) (w.setCell ⟨b, o, none⟩ v) _ (heap_setCell_at h o v) (by simp; omega)
    refine ⟨c', h1, ?_⟩
    rw [h2]
    have ho : o < cur.toList.length := by simp; omega
    simp only [Array.toList_setIfInBounds, List.length_cons]
    rw [List.take_succ_eq_append_getElem (by simpa using ho), List.take_set_of_le (Nat.le_refl o), List.drop_set_of_lt (by omega)]
    simp [Nat.add_assoc, Nat.add_comm 1]

/-- THE SLICE VALUE '.slice ao n cap' OWNS THE CELLS xs, in a block outside K, from its head on; or it is nil. -/
def Own (K : Nat → Prop) (w : World) (e : TypeId) (ao : Option Addr) (n cap : Nat) (xs : List Value) : Prop :=
  xs.length = n ∧ n ≤ cap ∧ cap ≤ maxLen ∧ ((ao = none ∧ cap = 0) ∨
    ∃ g cur, ao = some ⟨g, 0, none⟩ ∧ ¬ K g ∧ w.heap[g]? = some (.cells cur e (0, 0)) ∧ cur.size = cap ∧ cur.toList.take n = xs)

theorem Own.nil (K : Nat → Prop) (w : World) (e : TypeId) : Own K w e none 0 0 [] := ⟨rfl, Nat.le_refl _, Nat.zero_le _, .inl ⟨rfl, rfl⟩⟩
theorem Own.cast {K : Nat → Prop} {w : World} {e : TypeId} {ao : Option Addr} {n n' cap : Nat} {xs xs' : List Value} (h : Own K w e ao n cap xs) (hn : n = n') (hx : xs = xs') : Own K w e ao n' cap xs' := by subst hn; subst hx; exact h
theorem Own.of {K : Nat → Prop} {w w' : World} {e : TypeId} {ao : Option Addr} {n cap : Nat} {xs : List Value} (h : Own K w e ao n cap xs)
    (hb : ∀ g, ¬ K g → g < w.heap.size → w'.heap[g]? = w.heap[g]?) : Own K w' e ao n cap xs := by
  obtain ⟨h1, h2, h3, h4⟩ := h
  refine ⟨h1, h2, h3, ?_⟩
  rcases h4 with h4 | ⟨g, cur, r1, r2, r3, r4⟩
  · exact .inl h4
  · exact .inr ⟨g, cur, r1, r2, by rw [hb g r2 (lt_block r3)]; exact r3, r4⟩
theorem Own.alloc {K : Nat → Prop} {w : World} {e : TypeId} {ao : Option Addr} {n cap : Nat} {xs : List Value} (h : Own K w e ao n cap xs) (o : Obj) : Own K (w.alloc o) e ao n cap xs :=
  h.of fun _ _ hg => Below.heap_alloc _ _ _ hg
theorem Own.drew {K : Nat → Prop} {w : World} {e : TypeId} {ao : Option Addr} {n cap : Nat} {xs : List Value} (h : Own K w e ao n cap xs) : Own K w.drew e ao n cap xs := h
theorem Own.setCell {K : Nat → Prop} {w : World} {e : TypeId} {ao : Option Addr} {n cap : Nat} {xs : List Value} (h : Own K w e ao n cap xs) {p : Addr} (hp : K p.block) (u : Value) : Own K (w.setCell p u) e ao n cap xs :=
  h.of fun _ hg _ => Below.heap_setCell _ _ _ _ (fun e => hg (e ▸ hp))
theorem Own.take {K : Nat → Prop} {w : World} {e : TypeId} {ao : Option Addr} {n cap : Nat} {xs : List Value} (h : Own K w e ao n cap xs) (k : Nat) (hk : k ≤ n) : Own K w e ao k cap (xs.take k) := by
  obtain ⟨h1, h2, h3, h4⟩ := h
  refine ⟨by simp; omega, by omega, h3, ?_⟩
  rcases h4 with h4 | ⟨g, cur, r1, r2, r3, r4, r5⟩
  · exact .inl h4
  · refine .inr ⟨g, cur, r1, r2, r3, r4, ?_⟩
    rw [← r5, List.take_take, Nat.min_eq_left hk]
theorem Own.mono {K K' : Nat → Prop} {w : World} {e : TypeId} {ao : Option Addr} {n cap : Nat} {xs : List Value} (h : Own K w e ao n cap xs) (hK : ∀ g, (∃ o, w.heap[g]? = some o) → ao = some ⟨g, 0, none⟩ → ¬ K g → ¬ K' g) : Own K' w e ao n cap xs := by
  obtain ⟨h1, h2, h3, h4⟩ := h
  refine ⟨h1, h2, h3, ?_⟩
  rcases h4 with h4 | ⟨g, cur, r1, r2, r3, r4⟩
  · exact .inl h4
  · exact .inr ⟨g, cur, r1, hK g ⟨_, r3⟩ r1 r2, r3, r4⟩
/-- The cells, where the value is not nil. -/
theorem Own.cells {K : Nat → Prop} {w : World} {e : TypeId} {ao : Option Addr} {n cap : Nat} {xs : List Value} (h : Own K w e ao n cap xs) :
    (ao = none ∧ n = 0 ∧ cap = 0 ∧ xs = []) ∨ ∃ g, ao = some ⟨g, 0, none⟩ ∧ ¬ K g ∧ g < w.heap.size ∧ (∀ j u, xs[j]? = some u → w.cell? ⟨g, j, none⟩ = some u) ∧ ∀ j, w.frozen? ⟨g, j, none⟩ = false := by
  obtain ⟨h1, h2, h3, h4⟩ := h
  rcases h4 with ⟨r1, r2⟩ | ⟨g, cur, r1, r2, r3, r4, r5⟩
  · exact .inl ⟨r1, by omega, r2, List.eq_nil_of_length_eq_zero (by omega)⟩
  · refine .inr ⟨g, r1, r2, lt_block r3, fun j u hj => ?_, fun j => frozen_block r3 j⟩
    rw [cell_block r3, ← hj, ← r5]
    have hjl : j < xs.length := by
      rcases Nat.lt_or_ge j xs.length with hl | hg
      · exact hl
      · rw [List.getElem?_eq_none hg] at hj; cases hj
    rw [List.getElem?_take, if_pos (by omega), Array.getElem?_toList]

section
variable {P : Program}

/-- append ONTO WHAT IS OWNED, out of whatever source. -/
theorem run_app {K : Nat → Prop} (w : World) (t tx ty e : TypeId) (i : TypeInfo) (z : Value) (ht : P.underlying t = some (.slice e)) (hi : P.info? e = some i) (hz : i.zero = some z) (hsize : i.size = 1) (hzs : z.cells.size = 1)
    {ao : Option Addr} {n cap : Nat} {xs : List Value} (hown : Own K w e ao n cap xs) (x : Value) (m : Nat) (news : List Value) (hs : Src P 1 tx x m news w)
    (hK : ∀ k, K k → k < w.heap.size) (h63 : n + m ≤ maxLen) (hbytes : (n + m) * i.bytes ≤ 140737488355328) :
    ∃ ao' cap' w', (Builtin.append_ #[t, tx] ty #[.slice ao n cap, x]).run P w = .ok (.slice ao' (n + m) cap') w' ∧ Own K w' e ao' (n + m) cap' (xs ++ news) ∧ Kept K w w' ∧ (0 < n + m → ao'.isSome) := by
  have hsmall : n + m ≤ 9223372036854775807 := by simp only [maxLen] at h63; omega
  have hnl : news.length = m := by simpa using hs.newsLen
  have hs' : Src P i.size tx x m news w := by rw [hsize]; exact hs
  obtain ⟨h1, h2, h3, h4⟩ := hown
  have grow : cap < n + m → (Builtin.firstCells i.size n (.slice ao n cap)).run P w.drew = .ok xs.toArray w.drew →
      ∃ ao' cap' w', (Builtin.append_ #[t, tx] ty #[.slice ao n cap, x]).run P w = .ok (.slice ao' (n + m) cap') w' ∧ Own K w' e ao' (n + m) cap' (xs ++ news) ∧ Kept K w w' ∧ (0 < n + m → ao'.isSome) := by
    intro hg hold
    have hr := run_append_grow_src (P := P) w t tx ty e i z ht hi hz ao n cap xs hold x m news hs' hg (by omega) (growslice_fits hg hbytes)
    have hge := grownCap_ge w (n + m) cap e
    refine ⟨_, _, _, hr, ⟨by simp [h1, hnl], hge, grownCap_le_maxLen w (n + m) cap e h63, .inr ⟨w.heap.size, _, rfl, fun hk => Nat.lt_irrefl _ (hK _ hk), heap_alloc_new w.drew _, ?_, ?_⟩⟩, (Kept.refl K w).drew.alloc (by simpa using hK) _, fun _ => rfl⟩
    · simp only [Array.size_append, List.size_toArray, List.length_append, size_zeroCells, hzs, h1, hnl]
      omega
    · simp only [Array.toList_append]
      have hl : (xs ++ news).length = n + m := by simp [h1, hnl]
      rw [← hl]
      exact List.take_left
  rcases h4 with ⟨rfl, rfl⟩ | ⟨g, cur, rfl, r2, r3, r4, r5⟩
  · have hn0 : n = 0 := by omega
    subst hn0
    have hx : xs = [] := List.eq_nil_of_length_eq_zero h1
    subst hx
    by_cases hm : m = 0
    · subst hm
      have hnn : news = [] := List.eq_nil_of_length_eq_zero hnl
      subst hnn
      exact ⟨none, 0, w, run_append_nothing w t tx ty e i ht hi none 0 0 (Nat.le_refl _) x hs', ⟨rfl, Nat.le_refl _, Nat.zero_le _, .inl ⟨rfl, rfl⟩⟩, Kept.refl K w, fun h => absurd h (by omega)⟩
    · exact grow (by omega) (run_firstCells_none w.drew i.size 0 0 0)
  · have hcells : ∀ j u, xs[j]? = some u → w.cell? ((⟨g, 0, none⟩ : Addr).add j) = some u := by
      intro j u hj
      have hjl : j < xs.length := by
        rcases Nat.lt_or_ge j xs.length with hl | hg
        · exact hl
        · rw [List.getElem?_eq_none hg] at hj; cases hj
      have : (⟨g, 0, none⟩ : Addr).add j = ⟨g, j, none⟩ := by rw [Addr.add_lit, Nat.zero_add]
      rw [this, cell_block r3, ← hj, ← r5, List.getElem?_take, if_pos (by omega), Array.getElem?_toList]
    by_cases hroom : n + m ≤ cap
    · have hr := run_append_room_src (P := P) w t tx ty e i ht hi g 0 n cap x m news hs' hroom
        (fun j hj => by rw [cell_block r3]; simp only [hsize]; rw [Array.getElem?_eq_getElem (by omega)]; rfl)
        (fun j hj => frozen_block r3 _)
      simp only [hsize, Nat.zero_add, Nat.mul_one] at hr
      obtain ⟨c', q1, q2⟩ := heap_setCells_at (b := g) (e := e) (f := (0, 0)) news n w cur r3 (by omega)
      refine ⟨_, _, _, hr, ⟨by simp [h1, hnl], hroom, h3, .inr ⟨g, c', rfl, r2, q1, ?_, ?_⟩⟩, ⟨?_, ?_, ?_, ?_, ?_⟩, fun _ => rfl⟩
      · have := congrArg List.length q2
        simp at this
        omega
      · rw [q2, r5]
        have hl : (xs ++ news).length = n + m := by simp [h1, hnl]
        rw [← hl]
        exact List.take_left
      · exact World.os_setCells w g n news
      · have key : ∀ (vs : List Value) (o : Nat) (v : World), (v.setCells g o vs).tape = v.tape := by
          intro vs
          induction vs with
          | nil => intro o v; rfl
          | cons a r ih => intro o v; rw [World.setCells, ih]; rfl
        exact key news n w
      · exact World.output_setCells w g n news
      · have key : ∀ (vs : List Value) (o : Nat) (v : World), (v.setCells g o vs).heap.size = v.heap.size := by
          intro vs
          induction vs with
          | nil => intro o v; rfl
          | cons a r ih => intro o v; rw [World.setCells, ih]; simp
        rw [key]; exact Nat.le_refl _
      · intro k hk
        exact World.heap_setCells_other w g n news (hK k hk) (fun e => r2 (e ▸ hk))
    · exact grow (by omega) (run_firstCells_some w.drew i.size n ⟨g, 0, none⟩ n cap xs (by rw [hsize, h1]; simp) (by simpa using hcells))

/-- The operation, for a plain region's list. -/
theorem wpList_app {K : Nat → Prop} {w : World} {ops : Array Oper} {rest : List Oper} {o : Oper} {a : Act} {Q : Exit → Act → World → Prop} (hgd : o.guard = none) (s x : Operand) (t tx e : TypeId)
    (ho : o.op = .call { callee := .builtin .append, args := #[s, x], argTypes := #[t, tx] })
    (i : TypeInfo) (z : Value) (ht : P.underlying t = some (.slice e)) (hi : P.info? e = some i) (hz : i.zero = some z) (hsize : i.size = 1) (hzs : z.cells.size = 1)
    (ao : Option Addr) (n cap : Nat) (xs : List Value) (hs : a.eval s = .slice ao n cap) (hown : Own K w e ao n cap xs) (v : Value) (m : Nat) (news : List Value) (hx : a.eval x = v) (hsrc : Src P 1 tx v m news w)
    (hK : ∀ k, K k → k < w.heap.size) (h63 : n + m ≤ maxLen) (hbytes : (n + m) * i.bytes ≤ 140737488355328)
    (h : ∀ ao' cap' w', Own K w' e ao' (n + m) cap' (xs ++ news) → Kept K w w' → (0 < n + m → ao'.isSome) → wpList P ops Q rest (a.put o.dst (.slice ao' (n + m) cap')) w') : wpList P ops Q (o :: rest) a w := by
  refine wpList_plain hgd fun _ hK' => ?_
  obtain ⟨ao', cap', w', hr, h2, h3, h4⟩ := run_app (P := P) w t tx o.type e i z ht hi hz hsize hzs hown v m news hsrc hK h63 hbytes
  unfold Oper.wp execOp
  simp only [ho, resolve, invoke, builtin, Sem.run_bind, Sem.run_pure, Result.andThen_ok, List.map_toArray, List.map_cons, List.map_nil, hs, hx, hr]
  exact hK' _ _ (h ao' cap' w' h2 h3 h4)

/-- At a step of a region that draws its order. -/
theorem step_app {K : Nat → Prop} {w : World} {ops : Array Oper} {o : Oper} {a : Act} {Kn : Act → World → Prop} {Q : Exit → Act → World → Prop} {E : Prop} (hgd : o.guard = none) (s x : Operand) (t tx e : TypeId)
    (ho : o.op = .call { callee := .builtin .append, args := #[s, x], argTypes := #[t, tx] })
    (i : TypeInfo) (z : Value) (ht : P.underlying t = some (.slice e)) (hi : P.info? e = some i) (hz : i.zero = some z) (hsize : i.size = 1) (hzs : z.cells.size = 1)
    (ao : Option Addr) (n cap : Nat) (xs : List Value) (hs : a.eval s = .slice ao n cap) (hown : Own K w e ao n cap xs) (v : Value) (m : Nat) (news : List Value) (hx : a.eval x = v) (hsrc : Src P 1 tx v m news w)
    (hK : ∀ k, K k → k < w.heap.size) (h63 : n + m ≤ maxLen) (hbytes : (n + m) * i.bytes ≤ 140737488355328)
    (h : ∀ ao' cap' w', Own K w' e ao' (n + m) cap' (xs ++ news) → Kept K w w' → (0 < n + m → ao'.isSome) → Kn (a.put o.dst (.slice ao' (n + m) cap')) w') :
    if Region.wanted o (yielded ops a.tmps) = true then Oper.wp P o a w Kn Q else E := by
  have hw : Region.wanted o (yielded ops a.tmps) = true := by simp [Region.wanted, hgd]
  rw [if_pos hw]
  obtain ⟨ao', cap', w', hr, h2, h3, h4⟩ := run_app (P := P) w t tx o.type e i z ht hi hz hsize hzs hown v m news hsrc hK h63 hbytes
  unfold Oper.wp execOp
  simp only [ho, resolve, invoke, builtin, Sem.run_bind, Sem.run_pure, Result.andThen_ok, List.map_toArray, List.map_cons, List.map_nil, hs, hx, hr]
  exact h ao' cap' w' h2 h3 h4

/-- What 'append(s, x)' lays for its one element. -/
theorem src_new1 {tx e e' : TypeId} (X : World) (n : Nat) (v : Value) (hk : P.underlying tx = some (.slice e')) (h1 : v.oneCell' = true) (hn : n = X.heap.size) :
    Src P 1 tx (.slice (some ⟨n, 0, none⟩) 1 1) 1 [v] (X.alloc (.cells #[v] e)) := by
  subst hn
  refine Src.ofSlice _ hk _ 1 1 [v] rfl (fun j u hj => ?_) (fun u hu => ?_)
  · match j, hj with
    | 0, hj =>
      simp at hj
      subst hj
      rw [Addr.add_lit]
      simp
  · simp at hu
    subst hu
    exact h1

theorem src_new {tx e e' : TypeId} (X : World) (N n : Nat) (vs : List Value) (cur : Array Value) (hk : P.underlying tx = some (.slice e')) (h1 : ∀ u ∈ vs, u.oneCell' = true) (hN : N = X.heap.size) (hc : cur.toList = vs) (hn : n = vs.length) :
    Src P 1 tx (.slice (some ⟨N, 0, none⟩) n n) n vs (X.alloc (.cells cur e)) := by
  subst hN
  subst hn
  refine Src.ofSlice _ hk _ _ _ vs (by simp) (fun j u hj => ?_) h1
  rw [Addr.add_lit, Nat.zero_add, cell_block (heap_alloc_new X _), ← Array.getElem?_toList, hc, hj]

/-- 'append(s, x)' of one element, at a plain region's list: the element's own block has just been laid. -/
theorem wpList_app1 {K : Nat → Prop} {X : World} {ops : Array Oper} {rest : List Oper} {o : Oper} {a : Act} {Q : Exit → Act → World → Prop} (hgd : o.guard = none) (s x : Operand) (t e : TypeId)
    (ho : o.op = .call { callee := .builtin .append, args := #[s, x], argTypes := #[t, t] })
    (i : TypeInfo) (z : Value) (ht : P.underlying t = some (.slice e)) (hi : P.info? e = some i) (hz : i.zero = some z) (hsize : i.size = 1) (hzs : z.cells.size = 1) (hby : i.bytes ≤ 64)
    (ao : Option Addr) (n cap : Nat) (xs : List Value) (hs : a.eval s = .slice ao n cap) (v : Value) (h1 : v.oneCell' = true) (N : Nat) (hx : a.eval x = .slice (some ⟨N, 0, none⟩) 1 1) (hb : n ≤ 1099511627776)
    (hown : Own K X e ao n cap xs) (hK : ∀ k, K k → k < X.heap.size) (hN : N = X.heap.size)
    (h : ∀ ao' cap' w', Own K w' e ao' (n + 1) cap' (xs ++ [v]) → Kept K X w' → wpList P ops Q rest (a.put o.dst (.slice ao' (n + 1) cap')) w') : wpList P ops Q (o :: rest) a (X.alloc (.cells #[v] e)) := by
  have hbb : (n + 1) * i.bytes ≤ (1099511627776 + 1) * 64 := Nat.mul_le_mul (by omega) hby
  refine wpList_app (K := K) hgd s x t t e ho i z ht hi hz hsize hzs ao n cap xs hs (hown.alloc _) _ 1 [v] hx (src_new1 X N v ht h1 hN) (fun k hk => by have := hK k hk; simp; omega) (by unfold maxLen; omega) (by omega) ?_
  intro ao' cap' w' q1 q2 _
  exact h ao' cap' w' q1 (((Kept.refl K X).alloc hK _).trans q2)

/-- 'append(s, str...)' at a plain region's list. -/
theorem wpList_appS {K : Nat → Prop} {X : World} {ops : Array Oper} {rest : List Oper} {o : Oper} {a : Act} {Q : Exit → Act → World → Prop} (hgd : o.guard = none) (s x : Operand) (t u e : TypeId)
    (ho : o.op = .call { callee := .builtin .append, args := #[s, x], argTypes := #[t, u] })
    (i : TypeInfo) (z : Value) (ht : P.underlying t = some (.slice e)) (hu : P.underlying u = some .string) (hi : P.info? e = some i) (hz : i.zero = some z) (hsize : i.size = 1) (hzs : z.cells.size = 1) (hby : i.bytes ≤ 64)
    (ao : Option Addr) (n cap : Nat) (xs : List Value) (hs : a.eval s = .slice ao n cap) (str : ByteArray) (hx : a.eval x = .string str) (m : Nat) (hm : str.size = m) (hb : n + m ≤ 1099511627776)
    (hown : Own K X e ao n cap xs) (hK : ∀ k, K k → k < X.heap.size)
    (h : ∀ ao' cap' w', Own K w' e ao' (n + m) cap' (xs ++ bvs str.data.toList) → Kept K X w' → wpList P ops Q rest (a.put o.dst (.slice ao' (n + m) cap')) w') : wpList P ops Q (o :: rest) a X := by
  subst hm
  have hbb : (n + str.size) * i.bytes ≤ 1099511627776 * 64 := Nat.mul_le_mul (by omega) hby
  refine wpList_app (K := K) hgd s x t u e ho i z ht hi hz hsize hzs ao n cap xs hs hown _ str.size (byteCells str) hx (Src.ofString X hu str) hK (by unfold maxLen; omega) (by omega) ?_
  intro ao' cap' w' q1 q2 _
  exact h ao' cap' w' q1 q2

/-- 'string(b)' of an owned row of bytes. -/
theorem run_string_own {K : Nat → Prop} (w : World) (src dst e : TypeId) {ao : Option Addr} {n cap : Nat} {l : List UInt8} (hs : P.underlying src = some (.slice e)) (he : P.underlying e = some (.int .u8)) (hd : P.underlying dst = some .string)
    (hown : Own K w e ao n cap (bvs l)) : (convert src dst (.slice ao n cap)).run P w = .ok (.string ⟨l.toArray⟩) w := by
  have hn : n = l.length := by rw [← hown.1, bvs_length]
  rcases hown.cells with ⟨rfl, h0, rfl, hl⟩ | ⟨g, rfl, _, _, hc, _⟩
  · have : l = [] := by simpa [bvs] using hl
    subst this
    subst h0
    rw [run_convert_bytes_string w src dst e none 0 0 hs he hd]
    simp [Conv.bytesToString]
    rfl
  · subst hn
    refine run_convert_bytes_back w src dst e ⟨g, 0, none⟩ cap l hs he hd fun j hj => ?_
    have : (⟨g, 0, none⟩ : Addr).add j = ⟨g, j, none⟩ := by rw [Addr.add_lit, Nat.zero_add]
    rw [this]
    exact hc j _ (by simp [bvs, bv, hj])
end

end Go.Proofs.YthhoicmfmfeehaaGreat

namespace Go.Proofs.YthhoicmfmfeehaaGreat
open Go.RowKit

/-- The block that a slice's value names. -/
def blkOf (ao : Option Addr) (k : Nat) : Prop := ao = some ⟨k, 0, none⟩

/-- The slice value '.slice ao n cap' owns n elements of z cells each, in a block outside K, from its head on; or it is nil. -/
def OwnZ (K : Nat → Prop) (w : World) (e : TypeId) (z : Nat) (ao : Option Addr) (n cap : Nat) (xs : List Value) : Prop :=
  xs.length = n * z ∧ n ≤ cap ∧ cap ≤ maxLen ∧ ((ao = none ∧ cap = 0) ∨
    ∃ g cur, ao = some ⟨g, 0, none⟩ ∧ ¬ K g ∧ w.heap[g]? = some (.cells cur e (0, 0)) ∧ cur.size = cap * z ∧ cur.toList.take (n * z) = xs)

theorem OwnZ.nil (K : Nat → Prop) (w : World) (e : TypeId) (z : Nat) : OwnZ K w e z none 0 0 [] := ⟨by simp, Nat.le_refl _, Nat.zero_le _, .inl ⟨rfl, rfl⟩⟩
theorem OwnZ.out {K : Nat → Prop} {w : World} {e : TypeId} {z : Nat} {ao : Option Addr} {n cap : Nat} {xs : List Value} (h : OwnZ K w e z ao n cap xs) {g : Nat} (hg : blkOf ao g) : ¬ K g ∧ g < w.heap.size := by
  obtain ⟨_, _, _, h4⟩ := h
  rcases h4 with ⟨r, _⟩ | ⟨g', cur, r1, r2, r3, _⟩
  · rw [r] at hg; cases hg
  · rw [r1] at hg
    injection hg with hg
    injection hg with hg
    subst hg
    exact ⟨r2, lt_block r3⟩
/-- Elsewhere, apart from other blocks, where its own block is as it was. -/
theorem OwnZ.to {K K' : Nat → Prop} {w w' : World} {e : TypeId} {z : Nat} {ao : Option Addr} {n cap : Nat} {xs : List Value} (h : OwnZ K w e z ao n cap xs) (hk : ∀ g, blkOf ao g → ¬ K' g) (hb : ∀ g, blkOf ao g → w'.heap[g]? = w.heap[g]?) :
    OwnZ K' w' e z ao n cap xs := by
  obtain ⟨h1, h2, h3, h4⟩ := h
  refine ⟨h1, h2, h3, ?_⟩
  rcases h4 with h4 | ⟨g, cur, r1, r2, r3, r4⟩
  · exact .inl h4
  · exact .inr ⟨g, cur, r1, hk g r1, by rw [hb g r1]; exact r3, r4⟩
theorem OwnZ.cell {K : Nat → Prop} {w : World} {e : TypeId} {z : Nat} {ao : Option Addr} {n cap : Nat} {xs : List Value} (h : OwnZ K w e z ao n cap xs) {j : Nat} {u : Value} (hj : xs[j]? = some u) : ∃ g, ao = some ⟨g, 0, none⟩ ∧ w.cell? ⟨g, j, none⟩ = some u := by
  obtain ⟨h1, h2, h3, h4⟩ := h
  have hjl : j < xs.length := by
    rcases Nat.lt_or_ge j xs.length with hl | hg
    · exact hl
    · rw [List.getElem?_eq_none hg] at hj; cases hj
  rcases h4 with ⟨r1, r2⟩ | ⟨g, cur, r1, r2, r3, r4, r5⟩
  · have : n = 0 := by omega
    subst this
    omega
  · refine ⟨g, r1, ?_⟩
    rw [cell_block r3, ← hj, ← r5, List.getElem?_take, if_pos (by omega), Array.getElem?_toList]
theorem Own.out {K : Nat → Prop} {w : World} {e : TypeId} {ao : Option Addr} {n cap : Nat} {xs : List Value} (h : Own K w e ao n cap xs) {g : Nat} (hg : blkOf ao g) : ¬ K g ∧ g < w.heap.size := by
  obtain ⟨_, _, _, h4⟩ := h
  rcases h4 with ⟨r, _⟩ | ⟨g', cur, r1, r2, r3, _⟩
  · rw [r] at hg; cases hg
  · rw [r1] at hg
    injection hg with hg
    injection hg with hg
    subst hg
    exact ⟨r2, lt_block r3⟩
theorem Own.to {K K' : Nat → Prop} {w w' : World} {e : TypeId} {ao : Option Addr} {n cap : Nat} {xs : List Value} (h : Own K w e ao n cap xs) (hk : ∀ g, blkOf ao g → ¬ K' g) (hb : ∀ g, blkOf ao g → w'.heap[g]? = w.heap[g]?) :
    Own K' w' e ao n cap xs := by
  obtain ⟨h1, h2, h3, h4⟩ := h
  refine ⟨h1, h2, h3, ?_⟩
  rcases h4 with h4 | ⟨g, cur, r1, r2, r3, r4⟩
  · exact .inl h4
  · exact .inr ⟨g, cur, r1, hk g r1, by rw [hb g r1]; exact r3, r4⟩

section
variable {P : Program}

/-- append of one element onto what is owned. -/
theorem run_appZ {K : Nat → Prop} (w : World) (t tx ty e : TypeId) (i : TypeInfo) (zv : Value) (ht : P.underlying t = some (.slice e)) (hi : P.info? e = some i) (hz : i.zero = some zv) (z : Nat) (hsize : i.size = z) (hzs : zv.cells.size = z) (hby : i.bytes ≤ 128)
    {ao : Option Addr} {n cap : Nat} {xs : List Value} (hown : OwnZ K w e z ao n cap xs) (x : Value) (news : List Value) (hs : Src P z tx x 1 news w)
    (hK : ∀ k, K k → k < w.heap.size) (hn : n ≤ 1000000000) :
    ∃ ao' cap' w', (Builtin.append_ #[t, tx] ty #[.slice ao n cap, x]).run P w = .ok (.slice ao' (n + 1) cap') w' ∧ OwnZ K w' e z ao' (n + 1) cap' (xs ++ news) ∧ Kept K w w' := by
  subst hsize
  have h63 : n + 1 ≤ maxLen := by unfold maxLen; omega
  have hbytes : (n + 1) * i.bytes ≤ 140737488355328 := by
    have : (n + 1) * i.bytes ≤ (1000000000 + 1) * 128 := Nat.mul_le_mul (by omega) hby
    omega
  have hnl : news.length = i.size := by simpa using hs.newsLen
  obtain ⟨h1, h2, h3, h4⟩ := hown
  have grow : cap < n + 1 → (Builtin.firstCells i.size n (.slice ao n cap)).run P w.drew = .ok xs.toArray w.drew →
      ∃ ao' cap' w', (Builtin.append_ #[t, tx] ty #[.slice ao n cap, x]).run P w = .ok (.slice ao' (n + 1) cap') w' ∧ OwnZ K w' e i.size ao' (n + 1) cap' (xs ++ news) ∧ Kept K w w' := by
    intro hg hold
    have hr := run_append_grow_src (P := P) w t tx ty e i zv ht hi hz ao n cap xs hold x 1 news hs hg (by omega) (growslice_fits hg hbytes)
    have hge := grownCap_ge w (n + 1) cap e
    have hlen : (xs ++ news).length = (n + 1) * i.size := by rw [List.length_append, h1, hnl, Nat.succ_mul]
    refine ⟨_, _, _, hr, ⟨hlen, hge, grownCap_le_maxLen w (n + 1) cap e h63, .inr ⟨w.heap.size, _, rfl, fun hk => Nat.lt_irrefl _ (hK _ hk), heap_alloc_new w.drew _, ?_, ?_⟩⟩, (Kept.refl K w).drew.alloc (by simpa using hK) _⟩
    · rw [Array.size_append, List.size_toArray, hlen, size_zeroCells, hzs, ← Nat.add_mul]
      congr 1
      omega
    · rw [Array.toList_append]
      rw [← hlen]
      exact List.take_left
  rcases h4 with ⟨rfl, rfl⟩ | ⟨g, cur, rfl, r2, r3, r4, r5⟩
  · have hn0 : n = 0 := by omega
    subst hn0
    have hx : xs = [] := List.eq_nil_of_length_eq_zero (by omega)
    subst hx
    exact grow (by omega) (run_firstCells_none w.drew i.size 0 0 0)
  · have hcells : ∀ j u, xs[j]? = some u → w.cell? ((⟨g, 0, none⟩ : Addr).add j) = some u := by
      intro j u hj
      have hjl : j < xs.length := by
        rcases Nat.lt_or_ge j xs.length with hl | hg
        · exact hl
        · rw [List.getElem?_eq_none hg] at hj; cases hj
      have : (⟨g, 0, none⟩ : Addr).add j = ⟨g, j, none⟩ := by rw [Addr.add_lit, Nat.zero_add]
      rw [this, cell_block r3, ← hj, ← r5, List.getElem?_take, if_pos (by omega), Array.getElem?_toList]
    by_cases hroom : n + 1 ≤ cap
    · have hfit : n * i.size + i.size ≤ cur.size := by
        rw [r4, ← Nat.succ_mul]
        exact Nat.mul_le_mul_right _ hroom
      have hr := run_append_room_src (P := P) w t tx ty e i ht hi g 0 n cap x 1 news hs hroom
        (fun j hj => by rw [cell_block r3]; rw [Array.getElem?_eq_getElem (by omega)]; rfl)
        (fun j hj => frozen_block r3 _)
      rw [Nat.zero_add] at hr
      obtain ⟨c', q1, q2⟩ := heap_setCells_at (b := g) (e := e) (f := (0, 0)) news (n * i.size) w cur r3 (by omega)
      have hlen : (xs ++ news).length = (n + 1) * i.size := by rw [List.length_append, h1, hnl, Nat.succ_mul]
      refine ⟨_, _, _, hr, ⟨hlen, hroom, h3, .inr ⟨g, c', rfl, r2, q1, ?_, ?_⟩⟩, ⟨?_, ?_, ?_, ?_, ?_⟩⟩
      · have := congrArg List.length q2
        rw [List.length_append, List.length_append, List.length_drop, List.length_take] at this
        simp only [Array.length_toList] at this
        omega
      · rw [q2, r5, ← hlen]
        exact List.take_left
      · exact World.os_setCells w g _ news
      · have key : ∀ (vs : List Value) (o : Nat) (v : World), (v.setCells g o vs).tape = v.tape := by
          intro vs
          induction vs with
          | nil => intro o v; rfl
          | cons a r ih => intro o v; rw [World.setCells, ih]; rfl
        exact key news _ w
      · exact World.output_setCells w g _ news
      · have key : ∀ (vs : List Value) (o : Nat) (v : World), (v.setCells g o vs).heap.size = v.heap.size := by
          intro vs
          induction vs with
          | nil => intro o v; rfl
          | cons a r ih => intro o v; rw [World.setCells, ih]; simp
        rw [key]; exact Nat.le_refl _
      · intro k hk
        exact World.heap_setCells_other w g _ news (hK k hk) (fun e => r2 (e ▸ hk))
    · exact grow (by omega) (run_firstCells_some w.drew i.size n ⟨g, 0, none⟩ n cap xs h1 hcells)

/-- An append whose run is known, at a plain region's list. -/
theorem wpList_appR {w w' : World} {ops : Array Oper} {rest : List Oper} {o : Oper} {a : Act} {Q : Exit → Act → World → Prop} (hgd : o.guard = none) (s x : Operand) (t tx : TypeId)
    (ho : o.op = .call { callee := .builtin .append, args := #[s, x], argTypes := #[t, tx] }) (vs vx v : Value) (hs : a.eval s = vs) (hx : a.eval x = vx)
    (hr : (Builtin.append_ #[t, tx] o.type #[vs, vx]).run P w = .ok v w') (h : wpList P ops Q rest (a.put o.dst v) w') : wpList P ops Q (o :: rest) a w := by
  refine wpList_plain hgd fun _ hK' => ?_
  unfold Oper.wp execOp
  simp only [ho, resolve, invoke, builtin, Sem.run_bind, Sem.run_pure, Result.andThen_ok, List.map_toArray, List.map_cons, List.map_nil, hs, hx, hr]
  exact hK' _ _ h
/-- What 'append(s, x)' lays for its one element of some cells. -/
theorem src_newZ {tx e e' : TypeId} (X : World) (N : Nat) (vs : List Value) (cur : Array Value) (hk : P.underlying tx = some (.slice e')) (h1 : ∀ u ∈ vs, u.oneCell' = true) (hN : N = X.heap.size) (hc : cur.toList = vs) :
    Src P vs.length tx (.slice (some ⟨N, 0, none⟩) 1 1) 1 vs (X.alloc (.cells cur e)) := by
  subst hN
  refine Src.ofSlice _ hk _ _ _ vs (by simp) (fun j u hj => ?_) h1
  rw [Addr.add_lit, Nat.zero_add, cell_block (heap_alloc_new X _), ← Array.getElem?_toList, hc, hj]
end
end Go.Proofs.YthhoicmfmfeehaaGreat

namespace Go.Proofs.YthhoicmfmfeehaaGreat
open Go.RowKit

/-- A slice value, and what lies in it: n elements of z cells each. -/
structure Row where
  e : TypeId
  z : Nat
  a : Option Addr
  n : Nat
  cap : Nat
  xs : List Value
abbrev Row.val (r : Row) : Value := .slice r.a r.n r.cap
def Row.own (K : Nat → Prop) (w : World) (r : Row) : Prop := OwnZ K w r.e r.z r.a r.n r.cap r.xs
/-- Rows outside K, each in a block of its own. -/
def Sep (K : Nat → Prop) (w : World) (rs : List Row) : Prop :=
  (∀ (i : Nat) (r : Row), rs[i]? = some r → r.own K w) ∧ ∀ (i j : Nat) (r s : Row), i ≠ j → rs[i]? = some r → rs[j]? = some s → ∀ g, blkOf r.a g → ¬ blkOf s.a g

theorem Sep.out {K : Nat → Prop} {w : World} {rs : List Row} (h : Sep K w rs) {i : Nat} {r : Row} (hi : rs[i]? = some r) {g : Nat} (hg : blkOf r.a g) : ¬ K g ∧ g < w.heap.size := OwnZ.out (h.1 i r hi) hg
/-- Elsewhere, where all these blocks are as they were. -/
theorem Sep.to {K K' : Nat → Prop} {w w' : World} {rs : List Row} (h : Sep K w rs) (hk : ∀ g, ¬ K g → g < w.heap.size → ¬ K' g) (hb : ∀ g, ¬ K g → g < w.heap.size → w'.heap[g]? = w.heap[g]?) : Sep K' w' rs :=
  ⟨fun i r hi => OwnZ.to (h.1 i r hi) (fun g hg => hk g (h.out hi hg).1 (h.out hi hg).2) (fun g hg => hb g (h.out hi hg).1 (h.out hi hg).2), h.2⟩
theorem Sep.kept {K : Nat → Prop} {w w' : World} {rs : List Row} (h : Sep K w rs) (hk : Kept (fun k => k < w.heap.size) w w') : Sep K w' rs := h.to (fun _ h _ => h) (fun g _ hg => hk.block g hg)
theorem Sep.setCell {K : Nat → Prop} {w : World} {rs : List Row} (h : Sep K w rs) {p : Addr} (hp : K p.block) (v : Value) : Sep K (w.setCell p v) rs :=
  h.to (fun _ h _ => h) (fun _ hg _ => Below.heap_setCell _ _ _ _ (fun e => hg (e ▸ hp)))
theorem Sep.weaken {K K' : Nat → Prop} {w : World} {rs : List Row} (h : Sep K w rs) (hs : ∀ k, K' k → K k) : Sep K' w rs := h.to (fun g hg _ hh => hg (hs g hh)) (fun _ _ _ => rfl)
/-- More is kept: blocks that are none of these rows'. -/
theorem Sep.more {K K' : Nat → Prop} {w : World} {rs : List Row} (h : Sep K w rs) (hs : ∀ k, K' k → K k ∨ w.heap.size ≤ k) : Sep K' w rs := h.to (fun g hg hl hh => by rcases hs g hh with h | h; exact hg h; omega) (fun _ _ _ => rfl)
theorem Sep.nil (K : Nat → Prop) (w : World) : Sep K w [] := ⟨fun i r h => by simp at h, fun i j r s _ h => by simp at h⟩
/-- A row that is new, or nil. -/
theorem Sep.cons {K : Nat → Prop} {w : World} {rs : List Row} {r : Row} (h : Sep K w rs) (hr : r.own K w) (ha : ∀ (i : Nat) (s : Row), rs[i]? = some s → ∀ g, blkOf r.a g → ¬ blkOf s.a g) : Sep K w (r :: rs) := by
  refine ⟨fun i s hi => ?_, fun i j s t hij hi hj g hg hh => ?_⟩
  · cases i with
    | zero => simp at hi; subst hi; exact hr
    | succ i => exact h.1 i s (by simpa using hi)
  · cases i with
    | zero =>
      cases j with
      | zero => exact hij rfl
      | succ j =>
        simp at hi
        subst hi
        exact ha j t (by simpa using hj) g hg hh
    | succ i =>
      cases j with
      | zero =>
        simp at hj
        subst hj
        exact ha i s (by simpa using hi) g hh hg
      | succ j => exact h.2 i j s t (by omega) (by simpa using hi) (by simpa using hj) g hg hh
/-- A row gives way to another one, in a block of its own or of the elder. -/
theorem Sep.set {K : Nat → Prop} {w w' : World} {rs : List Row} (h : Sep K w rs) {i : Nat} {r r' : Row} (hi : rs[i]? = some r) (hr : r'.own K w') (hn : ∀ g, blkOf r'.a g → blkOf r.a g ∨ w.heap.size ≤ g) (hb : ∀ g, ¬ K g → g < w.heap.size → ¬ blkOf r.a g → w'.heap[g]? = w.heap[g]?) : Sep K w' (rs.set i r') := by
  have hil : i < rs.length := by
    rcases Nat.lt_or_ge i rs.length with hl | hg
    · exact hl
    · rw [List.getElem?_eq_none hg] at hi; cases hi
  have oth : ∀ j s, j ≠ i → (rs.set i r')[j]? = some s → rs[j]? = some s := fun j s hj hs => by rwa [List.getElem?_set_ne (by omega)] at hs
  have own : ∀ s, (rs.set i r')[i]? = some s → s = r' := fun s hs => by rw [List.getElem?_set_self hil] at hs; injection hs with hs; exact hs.symm
  refine ⟨fun j s hj => ?_, fun j k s t hjk hj hk g hg hh => ?_⟩
  · by_cases e : j = i
    · subst e; rw [own s hj]; exact hr
    · have hs := oth j s e hj
      exact OwnZ.to (h.1 j s hs) (fun g hg => (h.out hs hg).1) (fun g hg => hb g (h.out hs hg).1 (h.out hs hg).2 (h.2 j i s r e hs hi g hg))
  · by_cases e : j = i
    · subst e
      rw [own s hj] at hg
      have ht := oth k t (by omega) hk
      rcases hn g hg with h1 | h1
      · exact h.2 j k r t hjk hi ht g h1 hh
      · have := (h.out ht hh).2; omega
    · have hs := oth j s e hj
      by_cases e' : k = i
      · subst e'
        rw [own t hk] at hh
        rcases hn g hh with h1 | h1
        · exact h.2 j k s r hjk hs hi g hg h1
        · have := (h.out hs hg).2; omega
      · exact h.2 j k s t hjk hs (oth k t e' hk) g hg hh

theorem OwnZ.one {K : Nat → Prop} {w : World} {e : TypeId} {ao : Option Addr} {n cap : Nat} {xs : List Value} : OwnZ K w e 1 ao n cap xs ↔ Own K w e ao n cap xs := by
  unfold OwnZ Own
  simp only [Nat.mul_one]

section
variable {P : Program}
/-- One element is appended to one of the rows. -/
theorem Sep.app {K : Nat → Prop} {w : World} {rs : List Row} (h : Sep K w rs) {i : Nat} {r : Row} (hi : rs[i]? = some r) (hK : ∀ k, K k → k < w.heap.size)
    (t tx ty : TypeId) (inf : TypeInfo) (zv : Value) (ht : P.underlying t = some (.slice r.e)) (hinf : P.info? r.e = some inf) (hz : inf.zero = some zv) (hsize : inf.size = r.z) (hzs : zv.cells.size = r.z) (hby : inf.bytes ≤ 128)
    (x : Value) (news : List Value) (hs : Src P r.z tx x 1 news w) (hn : r.n ≤ 1000000000) :
    ∃ a' cap' w', (Builtin.append_ #[t, tx] ty #[r.val, x]).run P w = .ok (.slice a' (r.n + 1) cap') w' ∧ Sep K w' (rs.set i ⟨r.e, r.z, a', r.n + 1, cap', r.xs ++ news⟩) ∧ Kept (fun k => k < w.heap.size ∧ ¬ blkOf r.a k) w w' := by
  have ho := h.1 i r hi
  obtain ⟨a', cap', w', hr, ho', hk⟩ := run_appZ (P := P) (K := fun k => k < w.heap.size ∧ ¬ blkOf r.a k) w t tx ty r.e inf zv ht hinf hz r.z hsize hzs hby
    (OwnZ.to (w' := w) ho (fun g hg hh => hh.2 hg) (fun _ _ => rfl)) x news hs (fun k hk => hk.1) hn
  have hnew : ∀ g, blkOf a' g → blkOf r.a g ∨ w.heap.size ≤ g := fun g hg => by
    have := (OwnZ.out ho' hg).1
    by_cases hb : blkOf r.a g
    · exact .inl hb
    · exact .inr (Nat.le_of_not_lt fun hl => this ⟨hl, hb⟩)
  refine ⟨a', cap', w', hr, h.set hi ?_ hnew (fun g _ hl hb => hk.block g ⟨hl, hb⟩), hk⟩
  refine OwnZ.to (w' := w') ho' (fun g hg hh => ?_) (fun _ _ => rfl)
  rcases hnew g hg with h1 | h1
  · exact (h.out hi h1).1 hh
  · have := hK g hh; omega
end
/-- A row that is cut short. -/
theorem OwnZ.take {K : Nat → Prop} {w : World} {e : TypeId} {z : Nat} {ao : Option Addr} {n cap : Nat} {xs : List Value} (h : OwnZ K w e z ao n cap xs) (k : Nat) (hk : k ≤ n) : OwnZ K w e z ao k cap (xs.take (k * z)) := by
  obtain ⟨h1, h2, h3, h4⟩ := h
  have hm : k * z ≤ n * z := Nat.mul_le_mul_right z hk
  refine ⟨by rw [List.length_take]; omega, by omega, h3, ?_⟩
  rcases h4 with h4 | ⟨g, cur, r1, r2, r3, r4, r5⟩
  · exact .inl h4
  · exact .inr ⟨g, cur, r1, r2, r3, r4, by rw [← r5, List.take_take, Nat.min_eq_left hm]⟩
end Go.Proofs.YthhoicmfmfeehaaGreat

namespace Go.Proofs.YthhoicmfmfeehaaGreat

/-- What a hex digit counts; 16: it is none. -/
def digV (c : UInt8) : Nat :=
  if 48 ≤ c.toNat ∧ c.toNat ≤ 57 then c.toNat - 48 else if 97 ≤ c.toNat ∧ c.toNat ≤ 102 then c.toNat - 87 else if 65 ≤ c.toNat ∧ c.toNat ≤ 70 then c.toNat - 55 else 16
/-- How many digits stand ahead. -/
def runN (b : Nat) : List UInt8 → Nat
  | [] => 0
  | c :: r => if digV c < b then runN b r + 1 else 0
theorem runN_le (b : Nat) : ∀ l : List UInt8, runN b l ≤ l.length
  | [] => Nat.le_refl _
  | c :: r => by
    unfold runN
    have := runN_le b r
    split
    · simp; omega
    · simp
/-- The number so far, and one digit more; beyond the last code it grows no more. -/
def codeF (b code : Nat) (c : UInt8) : Nat := if code ≤ 1114111 then code * b + digV c else code
def codeL (b : Nat) (l : List UInt8) : Nat := l.foldl (codeF b) 0
def ctrl : List Nat := [8364, 129, 8218, 402, 8222, 8230, 8224, 8225, 710, 8240, 352, 8249, 338, 141, 381, 143, 144, 8216, 8217, 8220, 8221, 8226, 8211, 8212, 732, 8482, 353, 8250, 339, 157, 382, 376]
def wrongC (code : Nat) : Bool := decide (code = 0) || decide (1114111 < code) || (decide (55296 ≤ code) && decide (code ≤ 57343))
def ctrlC (code : Nat) : Bool := decide (128 ≤ code) && decide (code ≤ 159)
def meantC (code : Nat) : Nat := if wrongC code = true then 65533 else if ctrlC code = true then ctrl.getD (code - 128) 0 else code
def meantF (code : Nat) : Nat := if wrongC code = true then 2 else if ctrlC code = true then 2 else 0
/-- What Take answers. -/
structure Ref where
  text : ByteArray
  n : Nat
  fault : Nat
def none0 : Ref := ⟨⟨#[]⟩, 0, 0⟩

def semi (l : List UInt8) : Bool := [59].isPrefixOf l
/-- x or X ahead: one byte, and hex. -/
def hexN : List UInt8 → Nat
  | c :: _ => if c = 120 ∨ c = 88 then 1 else 0
  | [] => 0
def baseN (x : Nat) : Nat := if x = 1 then 16 else 10
theorem hexN_le : ∀ l : List UInt8, hexN l ≤ l.length ∧ hexN l ≤ 1
  | [] => ⟨Nat.le_refl _, Nat.zero_le _⟩
  | c :: r => by
    simp only [hexN]
    split
    · simp
    · simp
/-- A number, read: the base's digits ds, behind so many bytes. -/
def numR (x b : Nat) (ds : List UInt8) : Ref :=
  if runN b ds = 0 then none0
  else ⟨Utf8.encode (meantC (codeL b (ds.take (runN b ds)))), 2 + x + runN b ds + (if semi (ds.drop (runN b ds)) = true then 1 else 0),
    if meantF (codeL b (ds.take (runN b ds))) = 0 then (if semi (ds.drop (runN b ds)) = true then 0 else 1) else meantF (codeL b (ds.take (runN b ds)))⟩
/-- Behind & and #. -/
def numL (l : List UInt8) : Ref := numR (hexN l) (baseN (hexN l)) (l.drop (hexN l))

structure Nm where
  name : List UInt8
  code : Nat
  bare : Bool
def names : List Nm := [⟨[97, 109, 112], 38, true⟩, ⟨[108, 116], 60, true⟩, ⟨[103, 116], 62, true⟩, ⟨[113, 117, 111, 116], 34, true⟩, ⟨[97, 112, 111, 115], 39, false⟩, ⟨[110, 98, 115, 112], 160, true⟩, ⟨[99, 111, 112, 121], 169, true⟩, ⟨[114, 101, 103], 174, true⟩, ⟨[104, 101, 108, 108, 105, 112], 8230, false⟩, ⟨[109, 100, 97, 115, 104], 8212, false⟩, ⟨[110, 100, 97, 115, 104], 8211, false⟩, ⟨[108, 115, 113, 117, 111], 8216, false⟩, ⟨[114, 115, 113, 117, 111], 8217, false⟩, ⟨[108, 100, 113, 117, 111], 8220, false⟩, ⟨[114, 100, 113, 117, 111], 8221, false⟩, ⟨[101, 117, 114, 111], 8364, false⟩, ⟨[116, 105, 109, 101, 115], 215, true⟩, ⟨[100, 105, 118, 105, 100, 101], 247, true⟩, ⟨[112, 97, 114, 97], 182, true⟩, ⟨[115, 101, 99, 116], 167, true⟩, ⟨[110, 111, 116], 172, true⟩, ⟨[110, 111, 116, 105, 110], 8713, false⟩]

def lenN (r : Nm) (l : List UInt8) : Nat :=
  if r.name.isPrefixOf l = true then (if semi (l.drop r.name.length) = true then r.name.length + 1 else if r.bare = true then r.name.length else 0) else 0
/-- The state of the search: code, how long, with a semicolon? -/
structure St where
  code : Nat
  long : Nat
  ended : Bool
def stepN (l : List UInt8) (st : St) (r : Nm) : St := if st.long < lenN r l then ⟨r.code, lenN r l, semi (l.drop r.name.length)⟩ else st
def scanN (l : List UInt8) (rs : List Nm) : St := rs.foldl (stepN l) ⟨0, 0, false⟩
def goesOn (c : UInt8) : Bool := decide (c.toNat = 61) || (decide (48 ≤ c.toNat) && decide (c.toNat ≤ 57)) || (decide (97 ≤ c.toNat) && decide (c.toNat ≤ 122)) || (decide (65 ≤ c.toNat) && decide (c.toNat ≤ 90))
def goes : List UInt8 → Bool
  | [] => false
  | c :: _ => goesOn c
def endR (st : St) (l : List UInt8) (attr : Bool) : Ref :=
  if st.long = 0 then none0 else if st.ended = true then ⟨Utf8.encode st.code, 1 + st.long, 0⟩ else if (attr && goes (l.drop st.long)) = true then none0 else ⟨Utf8.encode st.code, 1 + st.long, 1⟩
/-- Behind &, no number. -/
def nameL (l : List UInt8) (attr : Bool) : Ref := endR (scanN l names) l attr
def hash : List UInt8 → Bool
  | [] => false
  | c :: _ => decide (c = 35)
/-- Behind &. -/
def refL (l : List UInt8) (attr : Bool) : Ref := if hash l = true then numL (l.drop 1) else nameL l attr
def amp : List UInt8 → Bool
  | [] => false
  | c :: _ => decide (c = 38)
def takeL (l : List UInt8) (attr : Bool) : Ref := if amp l = true then refL (l.drop 1) attr else none0
/-! ### How long, at most -/
theorem prefix_length : ∀ (p l : List UInt8), p.isPrefixOf l = true → p.length ≤ l.length
  | [], _, _ => Nat.zero_le _
  | _ :: _, [], h => by simp [List.isPrefixOf] at h
  | a :: p, c :: l, h => by
    simp [List.isPrefixOf] at h
    have := prefix_length p l (by simpa using h.2)
    simp; omega
theorem semi_length {l : List UInt8} (h : semi l = true) : 1 ≤ l.length := prefix_length _ _ h
theorem lenN_le (r : Nm) (l : List UInt8) : lenN r l ≤ l.length := by
  unfold lenN
  split
  · rename_i h
    have h1 := prefix_length _ _ h
    split
    · rename_i h2
      have := semi_length h2
      simp at this
      omega
    · split
      · exact h1
      · exact Nat.zero_le _
  · exact Nat.zero_le _
theorem scanN_long (l : List UInt8) (rs : List Nm) : (scanN l rs).long ≤ l.length := by
  have key : ∀ (rs : List Nm) (st : St), st.long ≤ l.length → (rs.foldl (stepN l) st).long ≤ l.length := by
    intro rs
    induction rs with
    | nil => exact fun _ h => h
    | cons r rs ih =>
      intro st h
      refine ih _ ?_
      unfold stepN
      split
      · exact lenN_le r l
      · exact h
  exact key rs _ (Nat.zero_le _)
theorem numR_n (x b : Nat) (ds : List UInt8) : (numR x b ds).n ≤ 2 + x + ds.length := by
  unfold numR
  split
  · exact Nat.zero_le _
  · have h1 := runN_le b ds
    dsimp
    split
    · rename_i h
      have := semi_length h
      simp at this
      omega
    · omega
theorem numL_n (l : List UInt8) : (numL l).n ≤ 2 + l.length := by
  unfold numL
  have := numR_n (hexN l) (baseN (hexN l)) (l.drop (hexN l))
  have h := hexN_le l
  simp at this
  omega
theorem nameL_n (l : List UInt8) (attr : Bool) : (nameL l attr).n ≤ 1 + l.length := by
  have h := scanN_long l names
  unfold nameL endR
  repeat' split
  all_goals first | exact Nat.zero_le _ | (dsimp; omega)
theorem takeL_n (l : List UInt8) (attr : Bool) : (takeL l attr).n ≤ l.length := by
  unfold takeL
  split
  · cases l with
    | nil => contradiction
    | cons c r =>
      rw [List.drop_one, List.tail_cons]
      unfold refL
      split
      · cases r with
        | nil => contradiction
        | cons d r =>
          have := numL_n r
          simp
          omega
      · have := nameL_n r attr
        simpa [Nat.add_comm] using this
  · exact Nat.zero_le _
theorem ite_ref {p : Ref → Prop} {c : Prop} [Decidable c] {a b : Ref} (ha : p a) (hb : p b) : p (if c then a else b) := by
  split
  · exact ha
  · exact hb
theorem enc_le (c n f : Nat) : (Ref.mk (Utf8.encode (c : Int)) n f).text.size ≤ 4 := by
  dsimp only
  exact encode_size_le (c : Int)
theorem text_le (l : List UInt8) (attr : Bool) : (takeL l attr).text.size ≤ 4 := by
  have h0 : none0.text.size ≤ 4 := by decide
  have hn : (numL ((l.drop 1).drop 1)).text.size ≤ 4 := by
    unfold numL numR
    exact ite_ref (p := fun r => r.text.size ≤ 4) h0 (by apply enc_le)
  have ha : (nameL (l.drop 1) attr).text.size ≤ 4 := by
    unfold nameL endR
    exact ite_ref (p := fun r => r.text.size ≤ 4) h0 (ite_ref (p := fun r => r.text.size ≤ 4) (by apply enc_le) (ite_ref (p := fun r => r.text.size ≤ 4) h0 (by apply enc_le)))
  unfold takeL refL
  exact ite_ref (p := fun r => r.text.size ≤ 4) (ite_ref (p := fun r => r.text.size ≤ 4) hn ha) h0
/-! ### All of them -/
def allF (attr : Bool) : Nat → List UInt8 → List UInt8
  | 0, _ => []
  | _ + 1, [] => []
  | f + 1, c :: r => if (takeL (c :: r) attr).n = 0 then c :: allF attr f r else (takeL (c :: r) attr).text.data.toList ++ allF attr f ((c :: r).drop (takeL (c :: r) attr).n)
theorem allF_enough (attr : Bool) : ∀ (f g : Nat) (l : List UInt8), l.length ≤ f → l.length ≤ g → allF attr f l = allF attr g l
  | 0, g, l, hf, _ => by
    rw [List.eq_nil_of_length_eq_zero (l := l) (by omega)]
    cases g <;> rfl
  | f + 1, 0, l, _, hg => by
    rw [List.eq_nil_of_length_eq_zero (l := l) (by omega)]
    rfl
  | _ + 1, _ + 1, [], _, _ => rfl
  | f + 1, g + 1, c :: r, hf, hg => by
    simp only [List.length_cons] at hf hg
    unfold allF
    split
    · rw [allF_enough attr f g r (by omega) (by omega)]
    · rename_i h
      rw [allF_enough attr f g _ (by rw [List.length_drop, List.length_cons]; omega) (by rw [List.length_drop, List.length_cons]; omega)]
def allL (attr : Bool) (l : List UInt8) : List UInt8 := allF attr l.length l
theorem allL_none {attr : Bool} {c : UInt8} {r : List UInt8} (h : (takeL (c :: r) attr).n = 0) : allL attr (c :: r) = c :: allL attr r := by
  unfold allL
  rw [List.length_cons, allF, if_pos h]
theorem allL_some {attr : Bool} {l : List UInt8} (h : (takeL l attr).n ≠ 0) : allL attr l = (takeL l attr).text.data.toList ++ allL attr (l.drop (takeL l attr).n) := by
  cases l with
  | nil => exact absurd rfl h
  | cons c r =>
    unfold allL
    rw [List.length_cons, allF, if_neg h, allF_enough attr r.length ((c :: r).drop (takeL (c :: r) attr).n).length _ (by rw [List.length_drop, List.length_cons]; omega) (Nat.le_refl _)]
end Go.Proofs.YthhoicmfmfeehaaGreat

namespace Go.Proofs.YthhoicmfmfeehaaGreat

def rawL : List (List UInt8) := [[115, 99, 114, 105, 112, 116], [115, 116, 121, 108, 101], [120, 109, 112], [105, 102, 114, 97, 109, 101], [110, 111, 101, 109, 98, 101, 100], [110, 111, 102, 114, 97, 109, 101, 115]]
def softL : List (List UInt8) := [[116, 105, 116, 108, 101], [116, 101, 120, 116, 97, 114, 101, 97]]
def rawP (l : List UInt8) : Bool := rawL.any (l == ·)
def softP (l : List UInt8) : Bool := softL.any (l == ·)
/-- The words of a text, with one blank between. -/
def wordsP : List UInt8 → List UInt8 → List (List UInt8)
  | acc, [] => [acc]
  | acc, c :: r => if c = 32 then acc :: wordsP [] r else wordsP (acc ++ [c]) r
def amongP (t l : List UInt8) : Bool := (wordsP [] t).any (· == l) && l != []
theorem among_of {t l : List UInt8} {L : List (List UInt8)} (h : wordsP [] t = L) (h0 : ∀ x ∈ L, x ≠ []) : amongP t l = L.any (l == ·) := by
  unfold amongP
  rw [h]
  have e : (L.any fun x => x == l) = L.any (l == ·) := by
    apply List.any_congr rfl
    intro x
    exact BEq.comm
  rw [e]
  by_cases hl : l = []
  · subst hl
    have : L.any ([] == ·) = false := by
      rw [List.any_eq_false]
      intro x hx
      have hx0 := h0 x hx
      cases x with
      | nil => exact absurd rfl hx0
      | cons a r => simp
    rw [this]
    rfl
  · have : (l != []) = true := by simpa using hl
    rw [this, Bool.and_true]
def lowB (c : UInt8) : UInt8 := if 65 ≤ c.toNat ∧ c.toNat ≤ 90 then c + 32 else c
def lowL (l : List UInt8) : List UInt8 := l.map lowB
end Go.Proofs.YthhoicmfmfeehaaGreat

namespace Go.Proofs.YthhoicmfmfeehaaGreat







/-- U+FFFD for each byte 0. -/
def cleanB (c : UInt8) : List UInt8 := if c = 0 then [239, 191, 189] else [c]
def cleanL (l : List UInt8) : List UInt8 := l.flatMap cleanB
/-- A name as it is told. -/
def nmL (l : List UInt8) : List UInt8 := cleanL (lowL l)
def letterP (c : UInt8) : Bool := (decide (97 ≤ c.toNat) && decide (c.toNat ≤ 122)) || (decide (65 ≤ c.toNat) && decide (c.toNat ≤ 90))
def begL : List UInt8 → Bool
  | [] => false
  | c :: _ => letterP c
/-- How many bytes up to the first place whose rest is sought. -/
def upTo (p : List UInt8 → Bool) : List UInt8 → Nat
  | [] => 0
  | c :: r => if p (c :: r) = true then 0 else upTo p r + 1
def hdIn (set : List UInt8) : List UInt8 → Bool
  | [] => false
  | c :: _ => set.contains c
def hdOut (set : List UInt8) : List UInt8 → Bool
  | [] => true
  | c :: _ => !set.contains c
def pre (f l : List UInt8) : Bool := f.isPrefixOf l
/-- These bytes, of letters of any size. -/
def anyG (front l : List UInt8) : Bool := decide (front.length ≤ l.length) && (l.head? == front.head? && lowL (l.take front.length) == front)
def endsC (l : List UInt8) : Bool := pre [45, 45, 62] l || pre [45, 45, 33, 62] l
def endOfP (name l : List UInt8) : Bool := anyG (60 :: 47 :: name) l && (decide (name.length + 2 < l.length) && hdIn [9, 10, 12, 32, 47, 62] (l.drop (name.length + 2)))

structure Atr where
  name : List UInt8
  value : List UInt8
structure Tk where
  kind : Nat
  name : List UInt8
  attrs : List Atr
  self : Bool
  data : List UInt8
  pl : Nat
structure Fl where
  kind : Nat
  pl : Nat
/-- What is not read yet, its place, and what came. -/
structure TS where
  rest : List UInt8
  pl : Nat
  toks : List Tk
  flts : List Fl
  text : List UInt8
  tat : Nat

def TS.cut (st : TS) (n : Nat) : TS := { st with rest := st.rest.drop n, pl := st.pl + n }
def TS.flt (st : TS) (k a : Nat) : TS := { st with flts := st.flts ++ [⟨k, a⟩] }
def TS.endT (st : TS) : TS := if st.text = [] then st else { st with toks := st.toks ++ [⟨3, [], [], false, st.text, st.tat⟩], text := [] }
def TS.add (st : TS) (t : Tk) : TS := { st.endT with toks := st.endT.toks ++ [t] }
def TS.addT (st : TS) (part : List UInt8) (a : Nat) : TS := if part = [] then st else { st with text := st.text ++ part, tat := if st.text = [] then a else st.tat }
def TS.cutIf (st : TS) (f : List UInt8) : TS := if pre f st.rest = true then st.cut f.length else st
def TS.cutTo (st : TS) (p : List UInt8 → Bool) : TS := st.cut (upTo p st.rest)
def TS.front (st : TS) (p : List UInt8 → Bool) : List UInt8 := st.rest.take (upTo p st.rest)
def TS.cmt (st : TS) (d : List UInt8) (a : Nat) : TS := st.add ⟨4, [], [], false, cleanL d, a⟩

def TS.fltIf (st : TS) (k a : Nat) : TS := if k = 0 then st else st.flt k a
def TS.refr (st : TS) : TS :=
  ((st.fltIf (takeL st.rest false).fault st.pl).cut (if (takeL st.rest false).n = 0 then 1 else (takeL st.rest false).n)).addT (if (takeL st.rest false).n = 0 then [38] else (takeL st.rest false).text.data.toList) st.pl
def TS.note (st : TS) (a : Nat) : TS := ((((st.flt 7 a).cutTo (hdIn [62])).cmt (st.front (hdIn [62])) a)).cutIf [62]
/-- Behind what a comment has in it. -/
def TS.cmtEnd (st : TS) (a : Nat) : TS := if st.rest = [] then st.flt 6 st.pl else if pre [45, 45, 62] st.rest = true then st.cut 3 else (st.cutIf [45, 45, 33, 62]).flt 7 a
def TS.comment (st : TS) (a : Nat) : TS :=
  if pre [62] st.rest = true then ((st.cut 1).flt 7 a).cmt [] a else if pre [45, 62] st.rest = true then ((st.cut 2).flt 7 a).cmt [] a
  else ((st.cutTo endsC).cmtEnd a).cmt (st.front endsC) a
def blk : List UInt8 := [9, 10, 12, 32]
def TS.dtEnd (st : TS) : TS := if pre [62] st.rest = true then st.cut 1 else st.flt 6 st.pl
def TS.doctype (st : TS) (a : Nat) : TS :=
  ((((st.cutTo (hdOut blk)).cutTo (hdIn [9, 10, 12, 32, 62])).cutTo (hdIn [62])).dtEnd).add ⟨5, nmL ((st.cutTo (hdOut blk)).front (hdIn [9, 10, 12, 32, 62])), [], false, [], a⟩

structure Val where
  st : TS
  v : List UInt8
  ok : Bool
/-- Behind a quote. -/
def TS.quoted (st : TS) (q : UInt8) : Val := ⟨(st.cutTo (hdIn [q])).cutIf [q], st.front (hdIn [q]), pre [q] (st.cutTo (hdIn [q])).rest⟩
/-- Behind the sign =, and blanks. -/
def TS.val2 (st : TS) : Val :=
  if pre [34] st.rest = true then (st.cut 1).quoted 34 else if pre [39] st.rest = true then (st.cut 1).quoted 39
  else if pre [62] st.rest = true then ⟨st.flt 5 st.pl, [], true⟩ else ⟨st.cutTo (hdIn [9, 10, 12, 32, 62]), st.front (hdIn [9, 10, 12, 32, 62]), true⟩
def TS.value (st : TS) : Val :=
  if pre [61] (st.cutTo (hdOut blk)).rest = true then (((st.cutTo (hdOut blk)).cut 1).cutTo (hdOut blk)).val2 else ⟨st.cutTo (hdOut blk), [], true⟩
def hasN (attrs : List Atr) (name : List UInt8) : Bool := attrs.any (fun a => a.name == name)
structure Ats where
  st : TS
  attrs : List Atr
def TS.first (st : TS) : TS := if st.rest.take 1 = [61] then (st.cut 1).flt 5 st.pl else st.cut 1
def TS.aname (st : TS) : List UInt8 := nmL (st.rest.take 1 ++ st.first.front (hdIn [9, 10, 12, 32, 47, 62, 61]))
def TS.attr (st : TS) (attrs : List Atr) : Ats :=
  if (st.first.cutTo (hdIn [9, 10, 12, 32, 47, 62, 61])).value.ok = true then
    (if 50 ≤ attrs.length ∨ hasN attrs st.aname = true then ⟨(st.first.cutTo (hdIn [9, 10, 12, 32, 47, 62, 61])).value.st.flt 5 st.pl, attrs⟩
    else ⟨(st.first.cutTo (hdIn [9, 10, 12, 32, 47, 62, 61])).value.st, attrs ++ [⟨st.aname, allL true (cleanL (st.first.cutTo (hdIn [9, 10, 12, 32, 47, 62, 61])).value.v)⟩]⟩)
  else ⟨(st.first.cutTo (hdIn [9, 10, 12, 32, 47, 62, 61])).value.st, attrs⟩
def sla : List UInt8 := [9, 10, 12, 32, 47]
structure Tg where
  st : TS
  attrs : List Atr
  self : Bool
  ok : Bool
def TS.tagF : Nat → TS → List Atr → Tg
  | 0, st, attrs => ⟨st, attrs, false, false⟩
  | f + 1, st, attrs =>
    if (st.cutTo (hdOut sla)).rest = [] then ⟨(st.cutTo (hdOut sla)).flt 6 (st.cutTo (hdOut sla)).pl, attrs, false, false⟩
    else if pre [62] (st.cutTo (hdOut sla)).rest = true then ⟨(st.cutTo (hdOut sla)).cut 1, attrs, (st.front (hdOut sla)).getLast? == some 47, true⟩
    else TS.tagF f ((st.cutTo (hdOut sla)).attr attrs).st ((st.cutTo (hdOut sla)).attr attrs).attrs
def TS.inside (st : TS) (name : List UInt8) : TS :=
  if softP name = true then (st.cutTo (endOfP name)).addT (allL false (cleanL (st.front (endOfP name)))) st.pl
  else if rawP name = true then (st.cutTo (endOfP name)).addT (cleanL (st.front (endOfP name))) st.pl else st
def tgE : List UInt8 := [9, 10, 12, 32, 47, 62]
def TS.tag (st : TS) (kind a : Nat) : TS :=
  if ((st.cutTo (hdIn tgE)).tagF (st.cutTo (hdIn tgE)).rest.length.succ []).ok = true then
    (if kind = 2 then ((st.cutTo (hdIn tgE)).tagF (st.cutTo (hdIn tgE)).rest.length.succ []).st.add ⟨2, nmL (st.front (hdIn tgE)), [], false, [], a⟩
    else (((st.cutTo (hdIn tgE)).tagF (st.cutTo (hdIn tgE)).rest.length.succ []).st.add ⟨kind, nmL (st.front (hdIn tgE)), ((st.cutTo (hdIn tgE)).tagF (st.cutTo (hdIn tgE)).rest.length.succ []).attrs, ((st.cutTo (hdIn tgE)).tagF (st.cutTo (hdIn tgE)).rest.length.succ []).self, [], a⟩).inside (nmL (st.front (hdIn tgE))))
  else ((st.cutTo (hdIn tgE)).tagF (st.cutTo (hdIn tgE)).rest.length.succ []).st
def TS.ending (st : TS) (a : Nat) : TS :=
  if begL st.rest = true then st.tag 2 a else if st.rest = [] then (st.flt 6 a).addT [60, 47] a else if pre [62] st.rest = true then (st.cut 1).flt 4 a else st.note a
def dtL : List UInt8 := [33, 100, 111, 99, 116, 121, 112, 101]
/-- Behind a <. -/
def TS.opened (st : TS) (a : Nat) : TS :=
  if begL st.rest = true then st.tag 1 a else if pre [47] st.rest = true then (st.cut 1).ending a else if pre [33, 45, 45] st.rest = true then (st.cut 3).comment a
  else if anyG dtL st.rest = true then (st.cut 8).doctype a else if pre [33] st.rest = true then (st.cut 1).note a else if pre [63] st.rest = true then st.note a
  else (st.flt 4 a).addT [60] a
def TS.markup (st : TS) : TS := (st.cut 1).opened st.pl
def TS.next (st : TS) : TS :=
  match st.rest with
  | [] => st
  | c :: _ => if c = 60 then st.markup else if c = 38 then st.refr else if c = 0 then (st.flt 3 st.pl).cut 1 else (st.cutTo (hdIn [60, 38, 0])).addT (st.front (hdIn [60, 38, 0])) st.pl
def TS.runF : Nat → TS → TS
  | 0, st => st.endT
  | f + 1, st => if st.rest = [] then st.endT else TS.runF f st.next
def TS.run (st : TS) : TS := TS.runF st.rest.length st
def TS.new (s : List UInt8) : TS := ⟨s, 0, [], [], [], 0⟩
end Go.Proofs.YthhoicmfmfeehaaGreat

namespace Go.Proofs.YthhoicmfmfeehaaGreat

/-- One byte, by itself. -/
def one (q : Bool) (c : UInt8) : List UInt8 :=
  if c = 38 then [38, 97, 109, 112, 59] else if c = 60 then [38, 108, 116, 59] else if c = 62 then [38, 103, 116, 59] else if q = true ∧ c = 34 then [38, 113, 117, 111, 116, 59] else [c]
def nbsp : List UInt8 := [38, 110, 98, 115, 112, 59]
/-- What stands at the front of a text is written so, and is so many bytes. -/
def nbq : List UInt8 → Bool
  | 194 :: 160 :: _ => true
  | _ => false
def front (q : Bool) : List UInt8 → List UInt8
  | [] => []
  | c :: r => if nbq (c :: r) = true then nbsp else one q c
def far (l : List UInt8) : Nat := if nbq l = true then 2 else 1
/-! ### What is written comes back -/
end Go.Proofs.YthhoicmfmfeehaaGreat

namespace Go.Proofs.YthhoicmfmfeehaaGreat
open Go.RowKit

abbrev sv (l : List UInt8) : Value := .string ⟨l.toArray⟩
/-- The cells of attributes. -/
def atrCells (l : List Atr) : List Value := l.flatMap fun a => [sv a.name, sv a.value]
def tokCells (t : Tk) (aa : Option Addr) (ac : Nat) : List Value := [.int .u8 (t.kind : Int), sv t.name, .slice aa t.attrs.length ac, .bool t.self, sv t.data, .int .i64 (t.pl : Int)]
theorem atrCells_append (l m : List Atr) : atrCells (l ++ m) = atrCells l ++ atrCells m := by simp [atrCells]
/-- Attributes lie at a slice whose block is kept. -/
def AtsIn (K : Nat → Prop) (w : World) (aa : Option Addr) (l : List Atr) : Prop :=
  ∀ j (h : j < l.length), ∃ g, aa = some ⟨g, 0, none⟩ ∧ K g ∧ w.cell? ⟨g, j * 2, none⟩ = some (sv l[j].name) ∧ w.cell? ⟨g, j * 2 + 1, none⟩ = some (sv l[j].value)
theorem AtsIn.nil (K : Nat → Prop) (w : World) (aa : Option Addr) : AtsIn K w aa [] := fun _ h => absurd h (Nat.not_lt_zero _)
theorem AtsIn.kept {K K' : Nat → Prop} {w w' : World} {aa : Option Addr} {l : List Atr} (h : AtsIn K w aa l) (hk : Kept K w w') (hm : ∀ k, K k → K' k) : AtsIn K' w' aa l := fun j hj => by
  obtain ⟨g, h1, h2, h3, h4⟩ := h j hj
  exact ⟨g, h1, hm g h2, by rw [hk.cell (p := ⟨g, j * 2, none⟩) h2]; exact h3, by rw [hk.cell (p := ⟨g, j * 2 + 1, none⟩) h2]; exact h4⟩
/-- Tokens, as cells. -/
def TokRep (K : Nat → Prop) (w : World) : List Tk → List Value → Prop
  | [], cs => cs = []
  | t :: r, cs => ∃ aa ac cs', cs = tokCells t aa ac ++ cs' ∧ AtsIn K w aa t.attrs ∧ TokRep K w r cs'
theorem TokRep.kept {K K' : Nat → Prop} {w w' : World} (hk : Kept K w w') (hm : ∀ k, K k → K' k) : ∀ {l : List Tk} {cs : List Value}, TokRep K w l cs → TokRep K' w' l cs
  | [], _, h => h
  | _ :: _, _, ⟨aa, ac, cs', h1, h2, h3⟩ => ⟨aa, ac, cs', h1, h2.kept hk hm, TokRep.kept hk hm h3⟩
theorem TokRep.length {K : Nat → Prop} {w : World} : ∀ {l : List Tk} {cs : List Value}, TokRep K w l cs → cs.length = l.length * 6
  | [], _, h => by
    have h : _ = [] := h
    subst h
    rfl
  | _ :: _, _, ⟨_, _, cs', h1, _, h3⟩ => by
    have := TokRep.length h3
    subst h1
    simp only [tokCells, List.length_append, List.length_cons, List.length_nil]
    omega
theorem TokRep.get {K : Nat → Prop} {w : World} : ∀ {l : List Tk} {cs : List Value}, TokRep K w l cs → ∀ (j : Nat) (h : j < l.length), ∃ aa ac, AtsIn K w aa l[j].attrs ∧ ∀ i u, (tokCells l[j] aa ac)[i]? = some u → cs[j * 6 + i]? = some u
  | [], _, _, _, h => absurd h (Nat.not_lt_zero _)
  | t :: r, _, ⟨aa, ac, cs', h1, h2, h3⟩, 0, _ => by
    subst h1
    refine ⟨aa, ac, h2, fun i u hi => ?_⟩
    have hi' : (tokCells t aa ac)[i]? = some u := hi
    have hil : i < (tokCells t aa ac).length := by
      rcases Nat.lt_or_ge i (tokCells t aa ac).length with hl | hg
      · exact hl
      · rw [List.getElem?_eq_none hg] at hi'; cases hi'
    rw [Nat.zero_mul, Nat.zero_add, List.getElem?_append_left hil, hi']
  | t :: r, _, ⟨aa, ac, cs', h1, h2, h3⟩, j + 1, h => by
    subst h1
    obtain ⟨aa', ac', q1, q2⟩ := TokRep.get h3 j (by simpa using h)
    refine ⟨aa', ac', q1, fun i u hi => ?_⟩
    have hl : (tokCells t aa ac).length = 6 := rfl
    rw [List.getElem?_append_right (by rw [hl]; omega), hl, show (j + 1) * 6 + i - 6 = j * 6 + i by omega]
    exact q2 i u hi
/-- How much room is wanted yet. -/
def pot (st : TS) : Nat := st.toks.length + st.flts.length + st.text.length + 16 * st.rest.length
structure Fit (b : Nat) (st : TS) : Prop where
  place : st.pl + st.rest.length < 1000000
  room : pot st ≤ b
theorem Fit.le {b : Nat} {st : TS} (h : Fit b st) : st.pl + st.rest.length ≤ 1000000 := Nat.le_of_lt h.place
theorem Fit.mono {b b' : Nat} {st : TS} (h : Fit b st) (hb : b ≤ b') : Fit b' st := ⟨h.place, Nat.le_trans h.room hb⟩
theorem Fit.cut {b : Nat} {st : TS} (h : Fit b st) {n : Nat} (hn : n ≤ st.rest.length) : Fit (b - 16 * n) (st.cut n) := by
  obtain ⟨h1, h2⟩ := h
  unfold pot at h2
  refine ⟨?_, ?_⟩
  · simp only [TS.cut, List.length_drop]; omega
  · simp only [pot, TS.cut, List.length_drop]; omega
theorem Fit.flt {b : Nat} {st : TS} (h : Fit b st) (k a : Nat) : Fit (b + 1) (st.flt k a) := by
  obtain ⟨h1, h2⟩ := h
  unfold pot at h2
  refine ⟨h1, ?_⟩
  simp only [pot, TS.flt, List.length_append, List.length_cons, List.length_nil]; omega
theorem Fit.endT {b : Nat} {st : TS} (h : Fit b st) : Fit b st.endT := by
  obtain ⟨h1, h2⟩ := h
  unfold TS.endT
  split
  · exact ⟨h1, h2⟩
  · rename_i ht
    have : 0 < st.text.length := List.length_pos_iff.2 ht
    unfold pot at h2
    refine ⟨h1, ?_⟩
    simp only [pot, List.length_append, List.length_cons, List.length_nil]; omega
theorem Fit.add {b : Nat} {st : TS} (h : Fit b st) (t : Tk) : Fit (b + 1) (st.add t) := by
  obtain ⟨h1, h2⟩ := h.endT
  unfold pot at h2
  refine ⟨h1, ?_⟩
  simp only [pot, TS.add, List.length_append, List.length_cons, List.length_nil]; omega
theorem Fit.addT {b : Nat} {st : TS} (h : Fit b st) (part : List UInt8) (a : Nat) : Fit (b + part.length) (st.addT part a) := by
  unfold TS.addT
  split
  · exact h.mono (by omega)
  · obtain ⟨h1, h2⟩ := h
    unfold pot at h2
    refine ⟨h1, ?_⟩
    simp only [pot, List.length_append]; omega
theorem upTo_le (p : List UInt8 → Bool) : ∀ l, upTo p l ≤ l.length
  | [] => Nat.le_refl _
  | c :: r => by
    unfold upTo
    have := upTo_le p r
    split
    · exact Nat.zero_le _
    · simp only [List.length_cons]; omega
theorem pre_length {f l : List UInt8} (h : pre f l = true) : f.length ≤ l.length := prefix_length f l h
theorem sv_size (l : List UInt8) : (⟨l.toArray⟩ : ByteArray).size = l.length := by
  show l.toArray.size = l.length
  simp
theorem Fit.cutTo {b : Nat} {st : TS} (h : Fit b st) (p : List UInt8 → Bool) : Fit b (st.cutTo p) := (h.cut (upTo_le p st.rest)).mono (by omega)
theorem Fit.cutIf {b : Nat} {st : TS} (h : Fit b st) (f : List UInt8) : Fit b (st.cutIf f) := by
  unfold TS.cutIf
  split
  · rename_i hp
    exact (h.cut (pre_length hp)).mono (by omega)
  · exact h
theorem Fit.cmt {b : Nat} {st : TS} (h : Fit b st) (d : List UInt8) (a : Nat) : Fit (b + 1) (st.cmt d a) := h.add _
theorem Fit.front {b : Nat} {st : TS} (h : Fit b st) (p : List UInt8 → Bool) : (st.front p).length < 1000001 := by
  unfold TS.front
  rw [List.length_take]
  have := h.place
  omega
theorem Fit.dtEnd {b : Nat} {st : TS} (h : Fit b st) : Fit (b + 1) st.dtEnd := by
  unfold TS.dtEnd
  split
  · rename_i hp
    exact (h.cut (n := 1) (pre_length hp)).mono (by omega)
  · exact h.flt _ _
theorem Fit.cmtEnd {b : Nat} {st : TS} (h : Fit b st) (a : Nat) : Fit (b + 1) (st.cmtEnd a) := by
  unfold TS.cmtEnd
  split
  · exact h.flt _ _
  · split
    · rename_i hp
      exact (h.cut (n := 3) (pre_length hp)).mono (by omega)
    · exact (h.cutIf _).flt _ _
theorem cleanL_length : ∀ l : List UInt8, (cleanL l).length ≤ 3 * l.length
  | [] => Nat.le_refl _
  | c :: r => by
    have := cleanL_length r
    have e : cleanL (c :: r) = cleanB c ++ cleanL r := rfl
    rw [e, List.length_append, List.length_cons]
    unfold cleanB
    split <;> simp only [List.length_cons, List.length_nil] <;> omega
theorem Fit.val2 {b : Nat} {st : TS} (h : Fit b st) : Fit (b + 1) st.val2.st ∧ st.val2.v.length ≤ st.rest.length := by
  have fr : ∀ (s : TS) p, (s.front p).length ≤ s.rest.length := fun s p => by unfold TS.front; rw [List.length_take]; omega
  have cu : ∀ (s : TS) n, (s.cut n).rest.length ≤ s.rest.length := fun s n => by simp only [TS.cut, List.length_drop]; omega
  unfold TS.val2
  split
  · rename_i hp
    have f1 := (h.cut (n := 1) (pre_length hp)).mono (b' := b) (by omega)
    exact ⟨((f1.cutTo _).cutIf _).mono (by omega), Nat.le_trans (fr _ _) (cu _ _)⟩
  · split
    · rename_i hp
      have f1 := (h.cut (n := 1) (pre_length hp)).mono (b' := b) (by omega)
      exact ⟨((f1.cutTo _).cutIf _).mono (by omega), Nat.le_trans (fr _ _) (cu _ _)⟩
    · split
      · exact ⟨h.flt _ _, Nat.zero_le _⟩
      · exact ⟨(h.cutTo _).mono (by omega), fr _ _⟩
theorem Fit.value {b : Nat} {st : TS} (h : Fit b st) : Fit (b + 1) st.value.st ∧ st.value.v.length ≤ st.rest.length := by
  have cu : ∀ (s : TS) n, (s.cut n).rest.length ≤ s.rest.length := fun s n => by simp only [TS.cut, List.length_drop]; omega
  unfold TS.value
  split
  · rename_i hp
    have f1 := ((h.cutTo (hdOut blk)).cut (n := 1) (pre_length hp)).mono (b' := b) (by omega)
    have := (f1.cutTo (hdOut blk)).val2
    exact ⟨this.1, Nat.le_trans this.2 (Nat.le_trans (cu _ _) (Nat.le_trans (cu _ _) (cu _ _)))⟩
  · exact ⟨(h.cutTo _).mono (by omega), Nat.zero_le _⟩
abbrev atE : List UInt8 := [9, 10, 12, 32, 47, 62, 61]
theorem Fit.attr {b : Nat} {st : TS} (h : Fit b st) (hne : st.rest ≠ []) (attrs : List Atr) : Fit b (st.attr attrs).st := by
  have hp : 0 < st.rest.length := List.length_pos_iff.2 hne
  have hb : 16 ≤ b := by have := h.room; unfold pot at this; omega
  have f0 := h.cut (n := 1) (by omega)
  have f1 : Fit (b - 16 + 1) st.first := by
    unfold TS.first
    split
    · exact f0.flt _ _
    · exact f0.mono (by omega)
  have f3 := (f1.cutTo (hdIn atE)).value.1
  unfold TS.attr
  split
  · split
    · exact (f3.flt 5 st.pl).mono (by omega)
    · exact f3.mono (by omega)
  · exact f3.mono (by omega)
theorem attr_few {st : TS} {attrs : List Atr} (h : attrs.length ≤ 50) : (st.attr attrs).attrs.length ≤ 50 := by
  unfold TS.attr
  split
  · split
    · exact h
    · rename_i hn
      have : ¬ 50 ≤ attrs.length := fun hh => hn (.inl hh)
      simp only [List.length_append, List.length_cons, List.length_nil]
      omega
  · exact h
theorem tagF_succ (f : Nat) (st : TS) (attrs : List Atr) : TS.tagF (f + 1) st attrs =
    if (st.cutTo (hdOut sla)).rest = [] then ⟨(st.cutTo (hdOut sla)).flt 6 (st.cutTo (hdOut sla)).pl, attrs, false, false⟩
    else if pre [62] (st.cutTo (hdOut sla)).rest = true then ⟨(st.cutTo (hdOut sla)).cut 1, attrs, (st.front (hdOut sla)).getLast? == some 47, true⟩
    else TS.tagF f ((st.cutTo (hdOut sla)).attr attrs).st ((st.cutTo (hdOut sla)).attr attrs).attrs := rfl
theorem allL_length (attr : Bool) : ∀ (n : Nat) (l : List UInt8), l.length ≤ n → (allL attr l).length ≤ 4 * l.length
  | 0, l, h => by
    rw [List.eq_nil_of_length_eq_zero (l := l) (by omega)]
    exact Nat.le_refl _
  | n + 1, [], _ => Nat.le_refl _
  | n + 1, c :: r, h => by
    by_cases h0 : (takeL (c :: r) attr).n = 0
    · rw [allL_none h0]
      have := allL_length attr n r (by simpa using h)
      simp only [List.length_cons]
      omega
    · rw [allL_some h0, List.length_append]
      have hn := takeL_n (c :: r) attr
      have ht : (takeL (c :: r) attr).text.data.toList.length ≤ 4 := text_le (c :: r) attr
      have := allL_length attr n ((c :: r).drop (takeL (c :: r) attr).n) (by rw [List.length_drop]; simp only [List.length_cons] at h ⊢; omega)
      rw [List.length_drop] at this
      omega
/-- Some bytes further. -/
def Mv (s s' : TS) : Prop := ∃ n, n ≤ s.rest.length ∧ s'.rest = s.rest.drop n ∧ s'.pl = s.pl + n
theorem Mv.refl (s : TS) : Mv s s := ⟨0, Nat.zero_le _, rfl, rfl⟩
theorem Mv.of {s s' : TS} (h1 : s'.rest = s.rest) (h2 : s'.pl = s.pl) : Mv s s' := ⟨0, Nat.zero_le _, h1, h2⟩
theorem Mv.trans {a b c : TS} (h : Mv a b) (k : Mv b c) : Mv a c := by
  obtain ⟨n, h1, h2, h3⟩ := h
  obtain ⟨m, k1, k2, k3⟩ := k
  rw [h2, List.length_drop] at k1
  exact ⟨n + m, by omega, by rw [k2, h2, List.drop_drop], by omega⟩
theorem Mv.le {a b : TS} (h : Mv a b) : b.rest.length ≤ a.rest.length := by
  obtain ⟨n, h1, h2, _⟩ := h
  rw [h2, List.length_drop]
  omega
theorem Mv.sum {a b : TS} (h : Mv a b) : b.pl + b.rest.length = a.pl + a.rest.length := by
  obtain ⟨n, h1, h2, h3⟩ := h
  rw [h2, List.length_drop]
  omega
theorem Mv.pl {a b : TS} (h : Mv a b) : a.pl ≤ b.pl := by
  obtain ⟨n, _, _, h3⟩ := h
  omega
theorem next_cons {s : TS} {c : UInt8} {r : List UInt8} (h : s.rest = c :: r) : s.next = if c = 60 then s.markup else if c = 38 then s.refr else if c = 0 then (s.flt 3 s.pl).cut 1 else (s.cutTo (hdIn [60, 38, 0])).addT (s.front (hdIn [60, 38, 0])) s.pl := by
  unfold TS.next
  rw [h]
/-! ### Room -/
theorem Fit.note {b : Nat} {s : TS} (h : Fit b s) (a : Nat) : Fit (b + 2) (s.note a) := (((h.flt 7 a).cutTo _).cmt _ _).cutIf _
theorem Fit.comment {b : Nat} {s : TS} (h : Fit b s) (a : Nat) : Fit (b + 2) (s.comment a) := by
  unfold TS.comment
  split
  · rename_i hp
    exact ((((h.cut (n := 1) (pre_length hp)).mono (b' := b) (by omega)).flt 7 a).cmt _ _)
  · split
    · rename_i hp
      exact ((((h.cut (n := 2) (pre_length hp)).mono (b' := b) (by omega)).flt 7 a).cmt _ _)
    · exact ((h.cutTo _).cmtEnd a).cmt _ _
theorem Fit.doctype {b : Nat} {s : TS} (h : Fit b s) (a : Nat) : Fit (b + 2) (s.doctype a) := ((((h.cutTo _).cutTo _).cutTo _).dtEnd).add _
theorem Fit.tagF {b : Nat} : ∀ (f : Nat) {s : TS} (l : List Atr), Fit b s → Fit (b + 1) (TS.tagF f s l).st
  | 0, _, _, h => h.mono (by omega)
  | f + 1, s, l, h => by
    rw [tagF_succ]
    split
    · exact (h.cutTo _).flt _ _
    · rename_i hne
      split
      · rename_i hp
        exact ((h.cutTo _).cut (n := 1) (pre_length hp)).mono (by omega)
      · exact Fit.tagF f _ ((h.cutTo _).attr hne l)
theorem Fit.inside {b : Nat} {s : TS} (h : Fit b s) (name : List UInt8) : Fit b (s.inside name) := by
  have hc := h.cut (upTo_le (endOfP name) s.rest)
  have hfr : (s.front (endOfP name)).length = upTo (endOfP name) s.rest := by
    unfold TS.front
    rw [List.length_take]
    have := upTo_le (endOfP name) s.rest
    omega
  have hcl := cleanL_length (s.front (endOfP name))
  have hal := allL_length false _ (cleanL (s.front (endOfP name))) (Nat.le_refl _)
  have hb : 16 * upTo (endOfP name) s.rest ≤ b := by
    have := h.room
    have := upTo_le (endOfP name) s.rest
    unfold pot at *
    omega
  unfold TS.inside
  split
  · exact (hc.addT _ _).mono (by omega)
  · split
    · exact (hc.addT _ _).mono (by omega)
    · exact h
theorem Fit.tag {b : Nat} {s : TS} (h : Fit b s) (k a : Nat) : Fit (b + 2) (s.tag k a) := by
  have m := Fit.tagF (s.cutTo (hdIn tgE)).rest.length.succ [] (h.cutTo (hdIn tgE))
  unfold TS.tag
  split
  · split
    · exact m.add _
    · exact (m.add _).inside _
  · exact m.mono (by omega)
theorem Fit.ending {b : Nat} {s : TS} (h : Fit b s) (a : Nat) : Fit (b + 3) (s.ending a) := by
  unfold TS.ending
  split
  · exact (h.tag _ _).mono (by omega)
  · split
    · exact ((h.flt 6 a).addT [60, 47] a).mono (by simp only [List.length_cons, List.length_nil]; omega)
    · split
      · rename_i hp
        exact ((h.cut (n := 1) (pre_length hp)).flt 4 a).mono (by omega)
      · exact (h.note a).mono (by omega)
theorem Fit.opened {b : Nat} {s : TS} (h : Fit b s) (a : Nat) : Fit (b + 3) (s.opened a) := by
  unfold TS.opened
  split
  · exact (h.tag _ _).mono (by omega)
  · split
    · rename_i hp
      exact ((h.cut (n := 1) (pre_length hp)).ending a).mono (by omega)
    · split
      · rename_i hp
        exact ((h.cut (n := 3) (pre_length hp)).comment a).mono (by omega)
      · split
        · rename_i hp
          exact ((h.cut (n := 8) (by unfold anyG at hp; rw [Bool.and_eq_true] at hp; exact of_decide_eq_true hp.1)).doctype a).mono (by omega)
        · split
          · rename_i hp
            exact ((h.cut (n := 1) (pre_length hp)).note a).mono (by omega)
          · split
            · exact (h.note a).mono (by omega)
            · exact ((h.flt 4 a).addT [60] a).mono (by simp only [List.length_cons, List.length_nil]; omega)
theorem Fit.next {b : Nat} {s : TS} (h : Fit b s) (hne : s.rest ≠ []) : Fit b s.next := by
  have hp : 1 ≤ s.rest.length := List.length_pos_iff.2 hne
  have hb : 16 * s.rest.length ≤ b := by have := h.room; unfold pot at this; omega
  obtain ⟨c, r, hr⟩ : ∃ c r, s.rest = c :: r := by
    cases hh : s.rest with
    | nil => exact absurd hh hne
    | cons c r => exact ⟨c, r, rfl⟩
  rw [next_cons hr]
  by_cases h1 : c = 60
  · rw [if_pos h1]; exact ((h.cut hp).opened s.pl).mono (by omega)
  · rw [if_neg h1]
    by_cases h2 : c = 38
    · rw [if_pos h2]
      have hn := takeL_n s.rest false
      have htx := text_le s.rest false
      have hr' : (s.fltIf (takeL s.rest false).fault s.pl).rest = s.rest := by unfold TS.fltIf; split <;> rfl
      have hle : (if (takeL s.rest false).n = 0 then 1 else (takeL s.rest false).n) ≤ s.rest.length := by split <;> omega
      have hpos : 1 ≤ (if (takeL s.rest false).n = 0 then 1 else (takeL s.rest false).n) := by split <;> omega
      have htl : (if (takeL s.rest false).n = 0 then [38] else (takeL s.rest false).text.data.toList).length ≤ 4 := by
        split
        · decide
        · exact htx
      have fx : Fit (b + 1) (s.fltIf (takeL s.rest false).fault s.pl) := by
        unfold TS.fltIf
        split
        · exact h.mono (by omega)
        · exact h.flt _ _
      exact ((fx.cut (n := (if (takeL s.rest false).n = 0 then 1 else (takeL s.rest false).n)) (by rw [hr']; exact hle)).addT _ _).mono (by omega)
    · rw [if_neg h2]
      by_cases h3 : c = 0
      · rw [if_pos h3]; exact ((h.flt 3 s.pl).cut (n := 1) hp).mono (by omega)
      · rw [if_neg h3]
        have hu := upTo_le (hdIn [60, 38, 0]) s.rest
        have hfr : (s.front (hdIn [60, 38, 0])).length ≤ upTo (hdIn [60, 38, 0]) s.rest := by unfold TS.front; rw [List.length_take]; omega
        exact ((h.cut hu).addT _ _).mono (by omega)
def plain (c : UInt8) : Prop := c ≠ 60 ∧ c ≠ 38 ∧ c ≠ 0
theorem Fit.runF {b : Nat} : ∀ (f : Nat) {s : TS}, Fit b s → Fit b (TS.runF f s)
  | 0, _, h => h.endT
  | f + 1, s, h => by
    rw [TS.runF]
    split
    · exact h.endT
    · rename_i hne
      exact Fit.runF f (h.next hne)
/-- No token has too many attributes. -/
def AllA (s : TS) : Prop := ∀ t ∈ s.toks, t.attrs.length ≤ 50
theorem AllA.of {s s' : TS} (h : AllA s) (e : s'.toks = s.toks) : AllA s' := fun t ht => h t (e ▸ ht)
theorem AllA.endT {s : TS} (h : AllA s) : AllA s.endT := by
  unfold TS.endT
  split
  · exact h
  · intro t ht
    rcases List.mem_append.1 ht with ht | ht
    · exact h t ht
    · rw [List.mem_singleton.1 ht]
      exact Nat.zero_le _
theorem AllA.add {s : TS} (h : AllA s) {t : Tk} (ht : t.attrs.length ≤ 50) : AllA (s.add t) := by
  intro u hu
  rcases List.mem_append.1 hu with hu | hu
  · exact h.endT u hu
  · rw [List.mem_singleton.1 hu]
    exact ht
theorem tk_addT (s : TS) (p : List UInt8) (a : Nat) : (s.addT p a).toks = s.toks := by unfold TS.addT; split <;> rfl
theorem tk_cutIf (s : TS) (f : List UInt8) : (s.cutIf f).toks = s.toks := by unfold TS.cutIf; split <;> rfl
theorem tk_fltIf (s : TS) (k a : Nat) : (s.fltIf k a).toks = s.toks := by unfold TS.fltIf; split <;> rfl
theorem tk_cmtEnd (s : TS) (a : Nat) : (s.cmtEnd a).toks = s.toks := by
  unfold TS.cmtEnd
  split
  · rfl
  · split
    · rfl
    · exact tk_cutIf _ _
theorem tk_dtEnd (s : TS) : s.dtEnd.toks = s.toks := by unfold TS.dtEnd; split <;> rfl
theorem tk_val2 (s : TS) : s.val2.st.toks = s.toks := by
  unfold TS.val2
  split
  · exact tk_cutIf _ _
  · split
    · exact tk_cutIf _ _
    · split <;> rfl
theorem tk_value (s : TS) : s.value.st.toks = s.toks := by
  unfold TS.value
  split
  · exact tk_val2 _
  · rfl
theorem tk_first (s : TS) : s.first.toks = s.toks := by unfold TS.first; split <;> rfl
theorem tk_attr (s : TS) (l : List Atr) : (s.attr l).st.toks = s.toks := by
  have e : (s.first.cutTo (hdIn atE)).value.st.toks = s.toks := (tk_value _).trans (tk_first s)
  unfold TS.attr
  split
  · split
    · exact e
    · exact e
  · exact e
theorem tk_tagF : ∀ (f : Nat) (s : TS) (l : List Atr), (TS.tagF f s l).st.toks = s.toks
  | 0, _, _ => rfl
  | f + 1, s, l => by
    rw [tagF_succ]
    split
    · rfl
    · split
      · rfl
      · exact (tk_tagF f _ _).trans (tk_attr _ _)
theorem at_tagF : ∀ (f : Nat) (s : TS) (l : List Atr), l.length ≤ 50 → (TS.tagF f s l).attrs.length ≤ 50
  | 0, _, _, h => h
  | f + 1, s, l, h => by
    rw [tagF_succ]
    split
    · exact h
    · split
      · exact h
      · exact at_tagF f _ _ (attr_few h)
theorem tk_inside (s : TS) (name : List UInt8) : (s.inside name).toks = s.toks := by
  unfold TS.inside
  split
  · exact tk_addT _ _ _
  · split
    · exact tk_addT _ _ _
    · rfl
theorem AllA.cmt {s : TS} (h : AllA s) (d : List UInt8) (a : Nat) : AllA (s.cmt d a) := h.add (Nat.zero_le _)
theorem AllA.note {s : TS} (h : AllA s) (a : Nat) : AllA (s.note a) := by
  have h1 : AllA (((s.flt 7 a).cutTo (hdIn [62])).cmt (s.front (hdIn [62])) a) := AllA.cmt (AllA.of (s' := (s.flt 7 a).cutTo (hdIn [62])) h rfl) _ _
  exact AllA.of h1 (tk_cutIf _ _)
theorem AllA.tag {s : TS} (h : AllA s) (k a : Nat) : AllA (s.tag k a) := by
  have h1 : AllA ((s.cutTo (hdIn tgE)).tagF (s.cutTo (hdIn tgE)).rest.length.succ []).st := AllA.of h (tk_tagF _ _ _)
  unfold TS.tag
  split
  · split
    · exact h1.add (Nat.zero_le _)
    · exact AllA.of (h1.add (at_tagF _ _ _ (Nat.zero_le _))) (tk_inside _ _)
  · exact h1
theorem AllA.ending {s : TS} (h : AllA s) (a : Nat) : AllA (s.ending a) := by
  unfold TS.ending
  split
  · exact h.tag _ _
  · split
    · exact AllA.of (s := s.flt 6 a) (AllA.of h rfl) (tk_addT _ _ _)
    · split
      · exact AllA.of h rfl
      · exact h.note a
theorem AllA.opened {s : TS} (h : AllA s) (a : Nat) : AllA (s.opened a) := by
  unfold TS.opened
  split
  · exact h.tag _ _
  · split
    · exact AllA.ending (AllA.of (s' := s.cut 1) h rfl) a
    · split
      · unfold TS.comment
        split
        · exact AllA.cmt (AllA.of (s' := ((s.cut 3).cut 1).flt 7 a) h rfl) _ _
        · split
          · exact AllA.cmt (AllA.of (s' := ((s.cut 3).cut 2).flt 7 a) h rfl) _ _
          · exact AllA.cmt (AllA.of (s := (s.cut 3).cutTo endsC) (AllA.of h rfl) (tk_cmtEnd _ _)) _ _
      · split
        · unfold TS.doctype
          exact AllA.add (s := ((((s.cut 8).cutTo (hdOut blk)).cutTo (hdIn [9, 10, 12, 32, 62])).cutTo (hdIn [62])).dtEnd) (AllA.of h (tk_dtEnd _)) (t := ⟨5, _, [], false, [], a⟩) (Nat.zero_le _)
        · split
          · exact AllA.note (AllA.of (s' := s.cut 1) h rfl) a
          · split
            · exact h.note a
            · exact AllA.of (s := s.flt 4 a) (AllA.of h rfl) (tk_addT _ _ _)
theorem AllA.next {s : TS} (h : AllA s) : AllA s.next := by
  unfold TS.next
  split
  · exact h
  · split
    · exact AllA.opened (AllA.of (s' := s.cut 1) h rfl) _
    · split
      · unfold TS.refr
        refine AllA.of h ((tk_addT _ _ _).trans ?_)
        exact tk_fltIf _ _ _
      · split
        · exact AllA.of h rfl
        · exact AllA.of h (tk_addT _ _ _)
theorem AllA.runF : ∀ (f : Nat) {s : TS}, AllA s → AllA (TS.runF f s)
  | 0, _, h => h.endT
  | f + 1, s, h => by
    rw [TS.runF]
    split
    · exact h.endT
    · exact AllA.runF f h.next
end Go.Proofs.YthhoicmfmfeehaaGreat

namespace Go.Proofs.YthhoicmfmfeehaaGreat

/-- What a node knows of the others of one chain. -/
structure Lk where
  up : Int
  prev : Int
  next : Int
  first : Int
  last : Int
def Lk.nil : Lk := ⟨-1, -1, -1, -1, -1⟩
def hdD : List Nat → Int → Int
  | [], q => q
  | i :: _, _ => (i : Int)
def lsD : List Nat → Int → Int
  | [], p => p
  | i :: r, _ => lsD r (i : Int)
/-- A stretch of u's row: ahead of it p, behind it q. -/
def Seg (L : Nat → Lk) (u : Nat) : Int → List Nat → Int → Prop
  | _, [], _ => True
  | p, i :: r, q => (L i).up = (u : Int) ∧ (L i).prev = p ∧ (L i).next = hdD r q ∧ Seg L u (i : Int) r q
theorem hdD_append (a b : List Nat) (q : Int) : hdD (a ++ b) q = hdD a (hdD b q) := by cases a <;> rfl
theorem lsD_append (a b : List Nat) (p : Int) : lsD (a ++ b) p = lsD b (lsD a p) := by
  induction a generalizing p with
  | nil => rfl
  | cons x r ih => exact ih _
theorem Seg.append {L : Nat → Lk} {u : Nat} : ∀ {a b : List Nat} {p q : Int}, Seg L u p (a ++ b) q ↔ Seg L u p a (hdD b q) ∧ Seg L u (lsD a p) b q
  | [], b, p, q => by simp [Seg, lsD]
  | x :: r, b, p, q => by
    simp only [List.cons_append, Seg, lsD, hdD_append]
    rw [Seg.append (a := r)]
    exact ⟨fun ⟨h1, h2, h3, h4, h5⟩ => ⟨⟨h1, h2, h3, h4⟩, h5⟩, fun ⟨⟨h1, h2, h3, h4⟩, h5⟩ => ⟨h1, h2, h3, h4, h5⟩⟩
theorem Seg.congr {L L' : Nat → Lk} {u : Nat} : ∀ {l : List Nat} {p q : Int}, (∀ j ∈ l, (L' j).up = (L j).up ∧ (L' j).prev = (L j).prev ∧ (L' j).next = (L j).next) → Seg L u p l q → Seg L' u p l q
  | [], _, _, _, _ => trivial
  | x :: r, p, q, h, ⟨h1, h2, h3, h4⟩ => by
    obtain ⟨a, b, c⟩ := h x (List.mem_cons_self ..)
    exact ⟨a.trans h1, b.trans h2, c.trans h3, Seg.congr (fun j hj => h j (List.mem_cons_of_mem _ hj)) h4⟩
theorem Seg.mem {L : Nat → Lk} {u : Nat} : ∀ {l : List Nat} {p q : Int}, Seg L u p l q → ∀ j ∈ l, (L j).up = (u : Int)
  | x :: r, p, q, ⟨h1, _, _, h4⟩, j, hj => by
    rcases List.mem_cons.1 hj with rfl | hj
    · exact h1
    · exact Seg.mem h4 j hj
/-- The last one's next is another one. -/
theorem Seg.tail {L L' : Nat → Lk} {u : Nat} {q' : Int} : ∀ {a : List Nat} {p q : Int}, a.Nodup → Seg L u p a q →
    (∀ j ∈ a, (L' j).up = (L j).up ∧ (L' j).prev = (L j).prev ∧ (L' j).next = if (j : Int) = lsD a (-1) then q' else (L j).next) → Seg L' u p a q'
  | [], _, _, _, _, _ => trivial
  | [x], p, q, _, ⟨h1, h2, h3, _⟩, h => by
    obtain ⟨a, b, c⟩ := h x (List.mem_singleton.2 rfl)
    refine ⟨a.trans h1, b.trans h2, ?_, trivial⟩
    rw [c]
    exact if_pos rfl
  | x :: y :: r, p, q, hn, ⟨h1, h2, h3, h4⟩, h => by
    obtain ⟨a, b, c⟩ := h x (List.mem_cons_self ..)
    have hn' := List.nodup_cons.1 hn
    refine ⟨a.trans h1, b.trans h2, ?_, Seg.tail hn'.2 h4 fun j hj => ?_⟩
    · rw [c, if_neg]
      · exact h3
      · intro e
        have : ∀ (l : List Nat) (z : Nat), ∃ m ∈ (z :: l), lsD (z :: l) (-1) = (m : Int) := by
          intro l
          induction l with
          | nil => intro z; exact ⟨z, List.mem_singleton.2 rfl, rfl⟩
          | cons t l ih =>
            intro z
            obtain ⟨m, hm, he⟩ := ih t
            exact ⟨m, List.mem_cons_of_mem _ hm, he⟩
        obtain ⟨m, hm, he⟩ := this r y
        have e' : (x : Int) = lsD (y :: r) (-1) := e
        rw [he] at e'
        have : x = m := by omega
        exact hn'.1 (this ▸ hm)
    · exact h j (List.mem_cons_of_mem _ hj)
/-- The first one's previous is another one. -/
theorem Seg.head {L L' : Nat → Lk} {u : Nat} {p p' q : Int} {b : List Nat} (hn : b.Nodup) (hs : Seg L u p b q)
    (h : ∀ j ∈ b, (L' j).up = (L j).up ∧ (L' j).next = (L j).next ∧ (L' j).prev = if (j : Int) = hdD b (-1) then p' else (L j).prev) : Seg L' u p' b q := by
  cases b with
  | nil => trivial
  | cons x r =>
    obtain ⟨h1, h2, h3, h4⟩ := hs
    obtain ⟨a, b, c⟩ := h x (List.mem_cons_self ..)
    have hn' := List.nodup_cons.1 hn
    refine ⟨a.trans h1, by rw [c]; exact if_pos rfl, b.trans h3, Seg.congr (fun j hj => ?_) h4⟩
    obtain ⟨a, b, c⟩ := h j (List.mem_cons_of_mem _ hj)
    refine ⟨a, ?_, b⟩
    rw [c, if_neg]
    intro e
    have e' : (j : Int) = (x : Int) := e
    have : j = x := by omega
    exact hn'.1 (this ▸ hj)
theorem hdD_or (l : List Nat) : (l = [] ∧ hdD l (-1) = -1) ∨ ∃ m, m ∈ l ∧ hdD l (-1) = (m : Int) := by
  cases l with
  | nil => exact .inl ⟨rfl, rfl⟩
  | cons x r => exact .inr ⟨x, List.mem_cons_self .., rfl⟩
theorem lsD_or (l : List Nat) : (l = [] ∧ lsD l (-1) = -1) ∨ ∃ m, m ∈ l ∧ lsD l (-1) = (m : Int) := by
  cases l with
  | nil => exact .inl ⟨rfl, rfl⟩
  | cons x r =>
    right
    have : ∀ (l : List Nat) (z : Nat), ∃ m ∈ (z :: l), lsD (z :: l) (-1) = (m : Int) := by
      intro l
      induction l with
      | nil => intro z; exact ⟨z, List.mem_singleton.2 rfl, rfl⟩
      | cons t l ih =>
        intro z
        obtain ⟨m, hm, he⟩ := ih t
        exact ⟨m, List.mem_cons_of_mem _ hm, he⟩
    exact this r x
theorem lsD_ne {l : List Nat} (h : l ≠ []) (p p' : Int) : lsD l p = lsD l p' := by
  cases l with
  | nil => exact absurd rfl h
  | cons x r => rfl
theorem hdD_ne {l : List Nat} (h : l ≠ []) (p p' : Int) : hdD l p = hdD l p' := by
  cases l with
  | nil => exact absurd rfl h
  | cons x r => rfl

/-- Rows R, kept as links L. -/
structure WF (n : Nat) (L : Nat → Lk) (R : Nat → List Nat) : Prop where
  first : ∀ u, u < n → (L u).first = hdD (R u) (-1)
  last : ∀ u, u < n → (L u).last = lsD (R u) (-1)
  seg : ∀ u, u < n → Seg L u (-1) (R u) (-1)
  nodup : ∀ u, u < n → (R u).Nodup
  lt : ∀ u, u < n → ∀ i ∈ R u, i < n
  inn : ∀ i, i < n → (L i).up = -1 ∨ ∃ u, u < n ∧ (L i).up = (u : Int) ∧ i ∈ R u
theorem WF.up {n : Nat} {L : Nat → Lk} {R : Nat → List Nat} (h : WF n L R) {u i : Nat} (hu : u < n) (hi : i ∈ R u) : (L i).up = (u : Int) := (h.seg u hu).mem i hi
theorem WF.one {n : Nat} {L : Nat → Lk} {R : Nat → List Nat} (h : WF n L R) {u v i : Nat} (hu : u < n) (hv : v < n) (hi : i ∈ R u) (hj : i ∈ R v) : u = v := by
  have a := h.up hu hi
  have b := h.up hv hj
  omega
/-- A node in a row, with what stands ahead and behind. -/
theorem WF.split {n : Nat} {L : Nat → Lk} {R : Nat → List Nat} (h : WF n L R) {u i : Nat} (hu : u < n) {a b : List Nat} (e : R u = a ++ i :: b) : (L i).prev = lsD a (-1) ∧ (L i).next = hdD b (-1) := by
  have hs := h.seg u hu
  rw [e, Seg.append] at hs
  exact ⟨hs.2.2.1, hs.2.2.2.1⟩
theorem mem_split {i : Nat} {l : List Nat} (h : i ∈ l) : ∃ a b, l = a ++ i :: b := List.append_of_mem h

def updR (R : Nat → List Nat) (u : Nat) (l : List Nat) : Nat → List Nat := fun k => if k = u then l else R k
theorem updR_same (R : Nat → List Nat) (u : Nat) (l : List Nat) : updR R u l u = l := if_pos rfl
theorem updR_ne (R : Nat → List Nat) {u k : Nat} (l : List Nat) (h : k ≠ u) : updR R u l k = R k := if_neg h

/-- A node is taken out of its row. -/
def outL (L : Nat → Lk) (i : Nat) : Nat → Lk := if (L i).up = -1 then L else fun k =>
  ⟨if k = i then -1 else (L k).up,
   if k = i then -1 else if (k : Int) = (L i).next then (L i).prev else (L k).prev,
   if k = i then -1 else if (k : Int) = (L i).prev then (L i).next else (L k).next,
   if (k : Int) = (L i).up ∧ (L i).prev = -1 then (L i).next else (L k).first,
   if (k : Int) = (L i).up ∧ (L i).next = -1 then (L i).prev else (L k).last⟩
def outR (L : Nat → Lk) (R : Nat → List Nat) (i : Nat) : Nat → List Nat := if (L i).up = -1 then R else updR R (L i).up.toNat ((R (L i).up.toNat).erase i)

theorem erase_split {a b : List Nat} {i : Nat} (h : (a ++ i :: b).Nodup) : (a ++ i :: b).erase i = a ++ b := by
  have : i ∉ a := by
    intro hi
    have := (List.nodup_append.1 h).2.2 i hi i (List.mem_cons_self ..)
    exact this rfl
  rw [List.erase_append_right _ this, List.erase_cons_head]

theorem WF.out {n : Nat} {L : Nat → Lk} {R : Nat → List Nat} (h : WF n L R) {i : Nat} (hi : i < n) : WF n (outL L i) (outR L R i) := by
  unfold outL outR
  rcases h.inn i hi with h0 | ⟨u, hu, hup, hm⟩
  · rw [if_pos h0, if_pos h0]; exact h
  have hne : ¬ (L i).up = -1 := by omega
  rw [if_neg hne, if_neg hne, hup]
  obtain ⟨a, b, e⟩ := mem_split hm
  obtain ⟨hp, hq⟩ := h.split hu e
  have hnd := h.nodup u hu
  have hs := h.seg u hu
  have hlt := h.lt u hu
  rw [e] at hnd hs hlt
  have hab : (a ++ b).Nodup := (List.Sublist.append_left (List.sublist_cons_self i b) a).nodup hnd
  have hia : i ∉ a := fun hh => (List.nodup_append.1 hnd).2.2 i hh i (List.mem_cons_self ..) rfl
  have hib : i ∉ b := (List.nodup_cons.1 (List.nodup_append.1 hnd).2.1).1
  have hna := (List.nodup_append.1 hab).1
  have hnb := (List.nodup_append.1 hab).2.1
  have hdj := (List.nodup_append.1 hab).2.2
  rw [Seg.append] at hs
  obtain ⟨sa, -, -, -, sb⟩ := hs
  have hR : updR R (u : Int).toNat ((R (u : Int).toNat).erase i) = updR R u (a ++ b) := by
    rw [Int.toNat_natCast, e, erase_split hnd]
  rw [hR]
  -- what is touched of other rows
  have oth : ∀ v, v < n → v ≠ u → ∀ j ∈ R v, j ≠ i ∧ (j : Int) ≠ (L i).next ∧ (j : Int) ≠ (L i).prev := by
    intro v hv hvu j hj
    have nu : j ∉ R u := fun hh => hvu (h.one hv hu hj hh)
    refine ⟨fun e' => nu (e' ▸ hm), ?_, ?_⟩
    · rw [hq]
      rcases hdD_or b with ⟨-, e1⟩ | ⟨m, m1, e1⟩
      · rw [e1]; omega
      · rw [e1]
        intro e2
        have : j = m := by omega
        exact nu (by rw [e, this]; simp [m1])
    · rw [hp]
      rcases lsD_or a with ⟨-, e1⟩ | ⟨m, m1, e1⟩
      · rw [e1]; omega
      · rw [e1]
        intro e2
        have : j = m := by omega
        exact nu (by rw [e, this]; simp [m1])
  refine ⟨fun v hv => ?_, fun v hv => ?_, fun v hv => ?_, fun v hv => ?_, fun v hv j hj => ?_, fun j hj => ?_⟩
  · dsimp only
    by_cases c : v = u
    · subst c
      rw [updR_same, hdD_append, hp]
      have hf := h.first v hv
      rw [e, hdD_append] at hf
      rcases lsD_or a with ⟨e0, e1⟩ | ⟨m, m1, e1⟩
      · rw [if_pos ⟨rfl, e1⟩, hq, e0]; rfl
      · rw [if_neg (by omega), hf]
        exact hdD_ne (fun e2 => by rw [e2] at m1; cases m1) _ _
    · rw [updR_ne _ _ c, if_neg (by omega)]; exact h.first v hv
  · dsimp only
    by_cases c : v = u
    · subst c
      rw [updR_same, lsD_append, hq]
      have hf := h.last v hv
      rw [e, lsD_append] at hf
      rcases hdD_or b with ⟨e0, e1⟩ | ⟨m, m1, e1⟩
      · rw [if_pos ⟨rfl, e1⟩, hp, e0]; rfl
      · rw [if_neg (by omega), hf]
        show lsD b (i : Int) = _
        exact lsD_ne (fun e2 => by rw [e2] at m1; cases m1) _ _
    · rw [updR_ne _ _ c, if_neg (by omega)]; exact h.last v hv
  · by_cases c : v = u
    · subst c
      rw [updR_same, Seg.append]
      have fa : ∀ j ∈ a, j ≠ i := fun j hj e' => hia (e' ▸ hj)
      have fb : ∀ j ∈ b, j ≠ i := fun j hj e' => hib (e' ▸ hj)
      have na : ∀ j ∈ a, (j : Int) ≠ hdD b (-1) := by
        intro j hj
        rcases hdD_or b with ⟨-, e1⟩ | ⟨m, m1, e1⟩
        · rw [e1]; omega
        · rw [e1]; intro e2
          exact hdj j hj m m1 (by omega)
      have nb : ∀ j ∈ b, (j : Int) ≠ lsD a (-1) := by
        intro j hj
        rcases lsD_or a with ⟨-, e1⟩ | ⟨m, m1, e1⟩
        · rw [e1]; omega
        · rw [e1]; intro e2
          exact hdj m m1 j hj (by omega)
      constructor
      · refine Seg.tail (q' := hdD b (-1)) hna sa fun j hj => ?_
        dsimp only
        rw [if_neg (fa j hj), if_neg (fa j hj), if_neg (fa j hj), hq, hp, if_neg (na j hj)]
        exact ⟨rfl, rfl, rfl⟩
      · refine Seg.head (p := (i : Int)) hnb sb fun j hj => ?_
        dsimp only
        rw [if_neg (fb j hj), if_neg (fb j hj), if_neg (fb j hj), hq, hp, if_neg (nb j hj)]
        exact ⟨rfl, rfl, rfl⟩
    · rw [updR_ne _ _ c]
      refine Seg.congr (fun j hj => ?_) (h.seg v hv)
      obtain ⟨o1, o2, o3⟩ := oth v hv c j hj
      dsimp only
      rw [if_neg o1, if_neg o1, if_neg o1, if_neg o2, if_neg o3]
      exact ⟨rfl, rfl, rfl⟩
  · by_cases c : v = u
    · subst c; rw [updR_same]; exact hab
    · rw [updR_ne _ _ c]; exact h.nodup v hv
  · by_cases c : v = u
    · subst c
      rw [updR_same] at hj
      refine hlt j ?_
      rcases List.mem_append.1 hj with hj | hj
      · exact List.mem_append_left _ hj
      · exact List.mem_append_right _ (List.mem_cons_of_mem _ hj)
    · rw [updR_ne _ _ c] at hj; exact h.lt v hv j hj
  · dsimp only
    by_cases c : j = i
    · rw [if_pos c]; exact .inl rfl
    · rw [if_neg c]
      rcases h.inn j hj with h1 | ⟨v, hv, h1, h2⟩
      · exact .inl h1
      · refine .inr ⟨v, hv, h1, ?_⟩
        by_cases c' : v = u
        · subst c'
          rw [updR_same]
          rw [e] at h2
          rcases List.mem_append.1 h2 with h2 | h2
          · exact List.mem_append_left _ h2
          · rcases List.mem_cons.1 h2 with h2 | h2
            · exact absurd h2 c
            · exact List.mem_append_right _ h2
        · rw [updR_ne _ _ c']; exact h2
theorem out_up {L : Nat → Lk} {i : Nat} : (outL L i i).up = -1 := by
  unfold outL
  by_cases c : (L i).up = -1
  · rw [if_pos c]; exact c
  · rw [if_neg c]; dsimp only; rw [if_pos rfl]
theorem outR_notin {n : Nat} {L : Nat → Lk} {R : Nat → List Nat} (h : WF n L R) {i u : Nat} (hi : i < n) (hu : u < n) : i ∉ outR L R i u := by
  intro hm
  have := (h.out hi).up hu hm
  rw [out_up] at this
  omega

/-- A node is put into up's row, ahead of before. -/
def inL (L : Nat → Lk) (up i : Nat) (bef p : Int) : Nat → Lk := fun k =>
  ⟨if k = i then (up : Int) else (L k).up,
   if k = i then p else if (k : Int) = bef then (i : Int) else (L k).prev,
   if k = i then bef else if (k : Int) = p then (i : Int) else (L k).next,
   if k = up ∧ p = -1 then (i : Int) else (L k).first,
   if k = up ∧ bef = -1 then (i : Int) else (L k).last⟩
/-- Where a node is put in: ahead of bef, which is in the row, or at the end. -/
inductive At (l : List Nat) (bef : Int) : List Nat → List Nat → Prop
  | last : bef = -1 → At l bef l []
  | mid {a b : List Nat} {m : Nat} : bef = (m : Int) → l = a ++ m :: b → At l bef a (m :: b)
theorem At.eq {l : List Nat} {bef : Int} {a b : List Nat} (h : At l bef a b) : l = a ++ b := by cases h <;> simp_all
theorem At.bef {l : List Nat} {bef : Int} {a b : List Nat} (h : At l bef a b) : bef = hdD b (-1) := by cases h <;> simp_all [hdD]
/-- What stands ahead of the place. -/
def befP (L : Nat → Lk) (up : Nat) (bef : Int) : Int := if bef = -1 then (L up).last else (L bef.toNat).prev
theorem befP_at {n : Nat} {L : Nat → Lk} {R : Nat → List Nat} (h : WF n L R) {up : Nat} (hu : up < n) {bef : Int} {a b : List Nat} (ha : At (R up) bef a b) : befP L up bef = lsD a (-1) := by
  unfold befP
  cases ha with
  | last e => rw [if_pos e]; exact h.last up hu
  | mid e el =>
    subst e
    rw [if_neg (by omega), Int.toNat_natCast]
    exact (h.split hu el).1
theorem WF.put {n : Nat} {L : Nat → Lk} {R : Nat → List Nat} (h : WF n L R) {up i : Nat} (hu : up < n) (hi : i < n) (hfree : (L i).up = -1) {bef : Int} {a b : List Nat} (ha : At (R up) bef a b) :
    WF n (inL L up i bef (befP L up bef)) (updR R up (a ++ i :: b)) := by
  have hp := befP_at h hu ha
  have hb := ha.bef
  have hl := ha.eq
  rw [hp]
  have hni : ∀ v, v < n → i ∉ R v := fun v hv hm => by have := h.up hv hm; omega
  have hnd := h.nodup up hu
  have hs := h.seg up hu
  have hf := h.first up hu
  have hla := h.last up hu
  have hmi := hni up hu
  rw [hl] at hnd hs hf hla hmi
  rw [Seg.append] at hs
  rw [hdD_append] at hf
  rw [lsD_append] at hla
  have hna := (List.nodup_append.1 hnd).1
  have hnb := (List.nodup_append.1 hnd).2.1
  have hdj := (List.nodup_append.1 hnd).2.2
  have fa : ∀ j ∈ a, j ≠ i := fun j hj e' => hmi (e' ▸ List.mem_append_left _ hj)
  have fb : ∀ j ∈ b, j ≠ i := fun j hj e' => hmi (e' ▸ List.mem_append_right _ hj)
  have na : ∀ j ∈ a, (j : Int) ≠ hdD b (-1) := by
    intro j hj
    rcases hdD_or b with ⟨-, e1⟩ | ⟨m, m1, e1⟩
    · rw [e1]; omega
    · rw [e1]; intro e2
      exact hdj j hj m m1 (by omega)
  have nb : ∀ j ∈ b, (j : Int) ≠ lsD a (-1) := by
    intro j hj
    rcases lsD_or a with ⟨-, e1⟩ | ⟨m, m1, e1⟩
    · rw [e1]; omega
    · rw [e1]; intro e2
      exact hdj m m1 j hj (by omega)
  have oth : ∀ v, v < n → v ≠ up → ∀ j ∈ R v, j ≠ i ∧ (j : Int) ≠ bef ∧ (j : Int) ≠ lsD a (-1) := by
    intro v hv hvu j hj
    have nu : j ∉ R up := fun hh => hvu (h.one hv hu hj hh)
    refine ⟨fun e' => hni v hv (e' ▸ hj), ?_, ?_⟩
    · rw [hb]
      rcases hdD_or b with ⟨-, e1⟩ | ⟨m, m1, e1⟩
      · rw [e1]; omega
      · rw [e1]
        intro e2
        have : j = m := by omega
        exact nu (by rw [hl, this]; simp [m1])
    · rcases lsD_or a with ⟨-, e1⟩ | ⟨m, m1, e1⟩
      · rw [e1]; omega
      · rw [e1]
        intro e2
        have : j = m := by omega
        exact nu (by rw [hl, this]; simp [m1])
  refine ⟨fun v hv => ?_, fun v hv => ?_, fun v hv => ?_, fun v hv => ?_, fun v hv j hj => ?_, fun j hj => ?_⟩
  · unfold inL
    dsimp only
    by_cases c : v = up
    · subst c
      rw [updR_same, hdD_append]
      rcases lsD_or a with ⟨e0, e1⟩ | ⟨m, m1, e1⟩
      · rw [if_pos ⟨rfl, e1⟩, e0]; rfl
      · rw [if_neg (by omega), hf]
        exact hdD_ne (fun e2 => by rw [e2] at m1; cases m1) _ _
    · rw [updR_ne _ _ c, if_neg (by omega)]; exact h.first v hv
  · unfold inL
    dsimp only
    by_cases c : v = up
    · subst c
      rw [updR_same, lsD_append, hb]
      rcases hdD_or b with ⟨e0, e1⟩ | ⟨m, m1, e1⟩
      · rw [if_pos ⟨rfl, e1⟩, e0]; rfl
      · rw [if_neg (by omega), hla]
        show _ = lsD b (i : Int)
        exact lsD_ne (fun e2 => by rw [e2] at m1; cases m1) _ _
    · rw [updR_ne _ _ c, if_neg (by omega)]; exact h.last v hv
  · by_cases c : v = up
    · subst c
      rw [updR_same, Seg.append]
      constructor
      · refine Seg.tail (q' := (i : Int)) hna hs.1 fun j hj => ?_
        unfold inL
        dsimp only
        rw [if_neg (fa j hj), if_neg (fa j hj), if_neg (fa j hj), hb, if_neg (na j hj)]
        exact ⟨rfl, rfl, rfl⟩
      · refine ⟨?_, ?_, ?_, Seg.head (p := lsD a (-1)) hnb hs.2 fun j hj => ?_⟩
        · unfold inL; dsimp only; rw [if_pos rfl]
        · unfold inL; dsimp only; rw [if_pos rfl]
        · unfold inL; dsimp only; rw [if_pos rfl]; exact hb
        · unfold inL
          dsimp only
          rw [if_neg (fb j hj), if_neg (fb j hj), if_neg (fb j hj), hb, if_neg (nb j hj)]
          exact ⟨rfl, rfl, rfl⟩
    · rw [updR_ne _ _ c]
      refine Seg.congr (fun j hj => ?_) (h.seg v hv)
      obtain ⟨o1, o2, o3⟩ := oth v hv c j hj
      unfold inL
      dsimp only
      rw [if_neg o1, if_neg o1, if_neg o1, if_neg o2, if_neg o3]
      exact ⟨rfl, rfl, rfl⟩
  · by_cases c : v = up
    · subst c
      rw [updR_same]
      refine List.nodup_append.2 ⟨hna, List.nodup_cons.2 ⟨fun hh => fb i hh rfl, hnb⟩, fun x hx y hy => ?_⟩
      rcases List.mem_cons.1 hy with rfl | hy
      · exact fa x hx
      · exact hdj x hx y hy
    · rw [updR_ne _ _ c]; exact h.nodup v hv
  · by_cases c : v = up
    · subst c
      rw [updR_same] at hj
      rcases List.mem_append.1 hj with hj | hj
      · exact h.lt v hv j (by rw [hl]; exact List.mem_append_left _ hj)
      · rcases List.mem_cons.1 hj with rfl | hj
        · exact hi
        · exact h.lt v hv j (by rw [hl]; exact List.mem_append_right _ hj)
    · rw [updR_ne _ _ c] at hj; exact h.lt v hv j hj
  · unfold inL
    dsimp only
    by_cases c : j = i
    · rw [if_pos c]
      subst c
      exact .inr ⟨up, hu, rfl, by rw [updR_same]; simp⟩
    · rw [if_neg c]
      rcases h.inn j hj with h1 | ⟨v, hv, h1, h2⟩
      · exact .inl h1
      · refine .inr ⟨v, hv, h1, ?_⟩
        by_cases c' : v = up
        · subst c'
          rw [updR_same]
          rw [hl] at h2
          rcases List.mem_append.1 h2 with h2 | h2
          · exact List.mem_append_left _ h2
          · exact List.mem_append_right _ (List.mem_cons_of_mem _ h2)
        · rw [updR_ne _ _ c']; exact h2
/-- A new node, in nothing. -/
theorem WF.more {n : Nat} {L : Nat → Lk} {R : Nat → List Nat} (h : WF n L R) (L' : Nat → Lk) (hL : ∀ k, k < n → L' k = L k) (hn : L' n = Lk.nil) : WF (n + 1) L' (updR R n []) := by
  have c : ∀ v, v < n + 1 → v = n ∨ (v < n ∧ v ≠ n) := fun v hv => by omega
  refine ⟨fun v hv => ?_, fun v hv => ?_, fun v hv => ?_, fun v hv => ?_, fun v hv j hj => ?_, fun j hj => ?_⟩
  · rcases c v hv with rfl | ⟨h1, h2⟩
    · rw [updR_same, hn]; rfl
    · rw [updR_ne _ _ h2, hL v h1]; exact h.first v h1
  · rcases c v hv with rfl | ⟨h1, h2⟩
    · rw [updR_same, hn]; rfl
    · rw [updR_ne _ _ h2, hL v h1]; exact h.last v h1
  · rcases c v hv with rfl | ⟨h1, h2⟩
    · rw [updR_same]; trivial
    · rw [updR_ne _ _ h2]
      exact Seg.congr (fun j hj => by rw [hL j (h.lt v h1 j hj)]; exact ⟨rfl, rfl, rfl⟩) (h.seg v h1)
  · rcases c v hv with rfl | ⟨h1, h2⟩
    · rw [updR_same]; exact List.nodup_nil
    · rw [updR_ne _ _ h2]; exact h.nodup v h1
  · rcases c v hv with rfl | ⟨h1, h2⟩
    · rw [updR_same] at hj; cases hj
    · rw [updR_ne _ _ h2] at hj
      have := h.lt v h1 j hj
      omega
  · rcases c j hj with rfl | ⟨h1, h2⟩
    · rw [hn]; exact .inl rfl
    · rw [hL j h1]
      rcases h.inn j h1 with h3 | ⟨v, hv, h3, h4⟩
      · exact .inl h3
      · exact .inr ⟨v, by omega, h3, by rw [updR_ne _ _ (by omega)]; exact h4⟩
end Go.Proofs.YthhoicmfmfeehaaGreat

namespace Go.Proofs.YthhoicmfmfeehaaGreat
open Go.RowKit

structure Fg where
  a : Bool
  b : Bool
  c : Bool
  d : Bool
  e : Bool
/-- A node, but for its links. -/
structure Nd where
  kind : Nat
  name : List UInt8
  data : List UInt8
  attrs : List Atr
  fl : Fg
  shadow : Int
  host : Int
  content : Int
/-- A document: what its nodes are, and both chains. -/
structure Dm where
  limit : Nat
  n : Nat
  nd : Nat → Nd
  pl : Nat → Lk
  gf : Nat → Lk
def lkCells (l : Lk) : List Value := [.int .i64 l.up, .int .i64 l.prev, .int .i64 l.next, .int .i64 l.first, .int .i64 l.last]
def ndCells (x : Nd) (p q : Lk) (aa : Option Addr) (ac : Nat) : List Value :=
  [.int .u8 (x.kind : Int), sv x.name, sv x.data, .slice aa x.attrs.length ac, .bool x.fl.a, .bool x.fl.b, .bool x.fl.c, .bool x.fl.d, .bool x.fl.e, .int .i64 x.shadow, .int .i64 x.host, .int .i64 x.content,
   .int .i64 p.up, .int .i64 p.prev, .int .i64 p.next, .int .i64 p.first, .int .i64 p.last, .int .i64 q.up, .int .i64 q.prev, .int .i64 q.next, .int .i64 q.first, .int .i64 q.last]
theorem nd_one (x : Nd) (p q : Lk) (aa : Option Addr) (ac : Nat) : ∀ u ∈ ndCells x p q aa ac, u.oneCell' = true := by
  intro u hu
  simp only [ndCells, List.mem_cons, List.not_mem_nil, or_false] at hu
  rcases hu with rfl | rfl | rfl | rfl | rfl | rfl | rfl | rfl | rfl | rfl | rfl | rfl | rfl | rfl | rfl | rfl | rfl | rfl | rfl | rfl | rfl | rfl <;> rfl
def Dm.cells (S : Dm) (i : Nat) (aa : Option Addr) (ac : Nat) : List Value := ndCells (S.nd i) (S.pl i) (S.gf i) aa ac
theorem Dm.cells_len (S : Dm) (i : Nat) (aa : Option Addr) (ac : Nat) : (S.cells i aa ac).length = 22 := rfl

/-- THE DOCUMENT at the block p, its nodes at the slice ga. -/
def DY (K : Nat → Prop) (w : World) (p : Nat) (S : Dm) (ga : Option Addr) (cap : Nat) : Prop :=
  (∀ k, K k → k < w.heap.size) ∧ ¬ K p ∧
    w.heap[p]? = some (.cells #[.int .i64 (S.limit : Int), .slice ga S.n cap] 74 (0, 0)) ∧
    ∃ (xs : List Value) (aa : Nat → Option Addr) (ac : Nat → Nat),
      OwnZ (fun k => K k ∨ k = p) w 80 22 ga S.n cap xs ∧
      (∀ i, i < S.n → ∀ f u, (S.cells i (aa i) (ac i))[f]? = some u → xs[i * 22 + f]? = some u) ∧
      (∀ i, i < S.n → OwnZ (fun k => K k ∨ k = p ∨ blkOf ga k) w 67 2 (aa i) (S.nd i).attrs.length (ac i) (atrCells (S.nd i).attrs)) ∧
      ∀ i j, i < S.n → j < S.n → i ≠ j → ∀ g, blkOf (aa i) g → ¬ blkOf (aa j) g
def DX (K : Nat → Prop) (w : World) (p : Nat) (S : Dm) : Prop := ∃ ga cap, DY K w p S ga cap

theorem DY.lt {K : Nat → Prop} {w : World} {p : Nat} {S : Dm} {ga : Option Addr} {cap : Nat} (h : DY K w p S ga cap) : ∀ k, K k → k < w.heap.size := h.1
theorem DY.plt {K : Nat → Prop} {w : World} {p : Nat} {S : Dm} {ga : Option Addr} {cap : Nat} (h : DY K w p S ga cap) : p < w.heap.size := lt_block h.2.2.1
theorem DY.pk {K : Nat → Prop} {w : World} {p : Nat} {S : Dm} {ga : Option Addr} {cap : Nat} (h : DY K w p S ga cap) : ¬ K p := h.2.1
theorem DY.c0 {K : Nat → Prop} {w : World} {p : Nat} {S : Dm} {ga : Option Addr} {cap : Nat} (h : DY K w p S ga cap) : w.cell? ⟨p, 0, none⟩ = some (.int .i64 (S.limit : Int)) := by rw [cell_block h.2.2.1]; rfl
theorem DY.c1 {K : Nat → Prop} {w : World} {p : Nat} {S : Dm} {ga : Option Addr} {cap : Nat} (h : DY K w p S ga cap) : w.cell? ⟨p, 1, none⟩ = some (.slice ga S.n cap) := by rw [cell_block h.2.2.1]; rfl
theorem DY.fp {K : Nat → Prop} {w : World} {p : Nat} {S : Dm} {ga : Option Addr} {cap : Nat} (h : DY K w p S ga cap) (i : Nat) : w.frozen? ⟨p, i, none⟩ = false := frozen_block h.2.2.1 i
theorem DY.cap_le {K : Nat → Prop} {w : World} {p : Nat} {S : Dm} {ga : Option Addr} {cap : Nat} (h : DY K w p S ga cap) : S.n ≤ cap ∧ cap ≤ maxLen := by
  obtain ⟨_, _, _, xs, aa, ac, ho, _⟩ := h
  exact ⟨ho.2.1, ho.2.2.1⟩
/-- Where the nodes lie. -/
theorem DY.at {K : Nat → Prop} {w : World} {p : Nat} {S : Dm} {ga : Option Addr} {cap : Nat} (h : DY K w p S ga cap) (h0 : 0 < S.n) : ∃ g, ga = some ⟨g, 0, none⟩ ∧ ¬ K g ∧ g ≠ p ∧ g < w.heap.size := by
  obtain ⟨_, _, _, xs, aa, ac, ho, _⟩ := h
  obtain ⟨h1, h2, h3, h4⟩ := ho
  rcases h4 with ⟨_, r2⟩ | ⟨g, cur, r1, r2, r3, r4⟩
  · omega
  · exact ⟨g, r1, fun hk => r2 (.inl hk), fun e => r2 (.inr e), lt_block r3⟩
/-- The cells of a node. -/
theorem DY.cell {K : Nat → Prop} {w : World} {p : Nat} {S : Dm} {g : Nat} {cap : Nat} (h : DY K w p S (some ⟨g, 0, none⟩) cap) {i : Nat} (hi : i < S.n) :
    ∃ aa ac, (∀ f u, (S.cells i aa ac)[f]? = some u → w.cell? ⟨g, i * 22 + f, none⟩ = some u) ∧ OwnZ (fun k => K k ∨ k = p ∨ k = g) w 67 2 aa (S.nd i).attrs.length ac (atrCells (S.nd i).attrs) := by
  obtain ⟨_, _, _, xs, aa, ac, ho, hx, ha, _⟩ := h
  refine ⟨aa i, ac i, fun f u hf => ?_, OwnZ.to (ha i hi) (fun x hx hk => ?_) (fun _ _ => rfl)⟩
  · obtain ⟨g', e, hc⟩ := ho.cell (hx i hi f u hf)
    injection e with e
    injection e with e
    subst e
    exact hc
  · refine (OwnZ.out (ha i hi) hx).1 ?_
    rcases hk with hk | hk | hk
    · exact .inl hk
    · exact .inr (.inl hk)
    · subst hk; exact .inr (.inr rfl)
theorem DY.fg {K : Nat → Prop} {w : World} {p : Nat} {S : Dm} {g : Nat} {cap : Nat} (h : DY K w p S (some ⟨g, 0, none⟩) cap) (i : Nat) : w.frozen? ⟨g, i, none⟩ = false := by
  obtain ⟨_, _, _, xs, aa, ac, ho, _⟩ := h
  obtain ⟨h1, h2, h3, h4⟩ := ho
  rcases h4 with ⟨r1, _⟩ | ⟨g', cur, r1, r2, r3, r4⟩
  · cases r1
  · injection r1 with r1
    injection r1 with r1
    subst r1
    exact frozen_block r3 i
theorem DY.gk {K : Nat → Prop} {w : World} {p : Nat} {S : Dm} {g : Nat} {cap : Nat} (h : DY K w p S (some ⟨g, 0, none⟩) cap) : ¬ K g ∧ g ≠ p ∧ g < w.heap.size := by
  obtain ⟨_, _, _, xs, aa, ac, ho, _⟩ := h
  have := OwnZ.out ho (g := g) rfl
  exact ⟨fun hk => this.1 (.inl hk), fun e => this.1 (.inr e), this.2⟩
theorem DY.kept {K : Nat → Prop} {w w' : World} {p : Nat} {S : Dm} {ga : Option Addr} {cap : Nat} (h : DY K w p S ga cap) (hk : Kept (fun k => k < w.heap.size) w w') : DY K w' p S ga cap := by
  obtain ⟨h1, h2, h3, xs, aa, ac, ho, hx, ha, hs⟩ := h
  exact ⟨fun k hk' => Nat.lt_of_lt_of_le (h1 k hk') hk.size, h2, by rw [hk.block p (lt_block h3)]; exact h3, xs, aa, ac, OwnZ.to ho (fun g hg => (ho.out hg).1) (fun g hg => hk.block g (ho.out hg).2), hx,
    fun i hi => OwnZ.to (ha i hi) (fun g hg => ((ha i hi).out hg).1) (fun g hg => hk.block g ((ha i hi).out hg).2), hs⟩
theorem DX.kept {K : Nat → Prop} {w w' : World} {p : Nat} {S : Dm} (h : DX K w p S) (hk : Kept (fun k => k < w.heap.size) w w') : DX K w' p S := by
  obtain ⟨ga, cap, h⟩ := h
  exact ⟨ga, cap, h.kept hk⟩
theorem DX.lt {K : Nat → Prop} {w : World} {p : Nat} {S : Dm} (h : DX K w p S) : ∀ k, K k → k < w.heap.size := by
  obtain ⟨ga, cap, h⟩ := h
  exact h.1
/-- Less is kept, or what is new. -/
theorem DY.more {K K' : Nat → Prop} {w w' : World} {p : Nat} {S : Dm} {ga : Option Addr} {cap : Nat} (h : DY K w p S ga cap) (hk : Kept (fun k => k < w.heap.size) w w') (hs : ∀ k, K' k → K k ∨ w.heap.size ≤ k) (hl : ∀ k, K' k → k < w'.heap.size) : DY K' w' p S ga cap := by
  obtain ⟨h1, h2, h3, xs, aa, ac, ho, hx, ha, hsp⟩ := h
  have hp := lt_block h3
  refine ⟨hl, fun hh => ?_, by rw [hk.block p hp]; exact h3, xs, aa, ac, OwnZ.to ho (fun g hg hh => ?_) (fun g hg => hk.block g (ho.out hg).2), hx, fun i hi => OwnZ.to (ha i hi) (fun g hg hh => ?_) (fun g hg => hk.block g ((ha i hi).out hg).2), hsp⟩
  · rcases hs p hh with hh | hh
    · exact h2 hh
    · omega
  · rcases hh with hh | hh
    · rcases hs g hh with hh | hh
      · exact (ho.out hg).1 (.inl hh)
      · have := (ho.out hg).2; omega
    · exact (ho.out hg).1 (.inr hh)
  · rcases hh with hh | hh
    · rcases hs g hh with hh | hh
      · exact ((ha i hi).out hg).1 (.inl hh)
      · have := ((ha i hi).out hg).2; omega
    · exact ((ha i hi).out hg).1 (.inr hh)
theorem DX.more {K K' : Nat → Prop} {w w' : World} {p : Nat} {S : Dm} (h : DX K w p S) (hk : Kept (fun k => k < w.heap.size) w w') (hs : ∀ k, K' k → K k ∨ w.heap.size ≤ k) (hl : ∀ k, K' k → k < w'.heap.size) : DX K' w' p S := by
  obtain ⟨ga, cap, h⟩ := h
  exact ⟨ga, cap, h.more hk hs hl⟩
/-- A store into the row of nodes, but not of attributes. -/
theorem DY.set {K : Nat → Prop} {w : World} {p : Nat} {S S' : Dm} {g : Nat} {cap : Nat} (h : DY K w p S (some ⟨g, 0, none⟩) cap) {i f : Nat} (hi : i < S.n) (hf : f < 22) {v : Value} (e1 : S'.limit = S.limit) (e2 : S'.n = S.n) (e3 : ∀ j, (S'.nd j).attrs = (S.nd j).attrs)
    (hc : ∀ j aa ac, j ≠ i → S'.cells j aa ac = S.cells j aa ac) (hd : ∀ aa ac, S'.cells i aa ac = (S.cells i aa ac).set f v) :
    DY K (w.setCell ⟨g, i * 22 + f, none⟩ v) p S' (some ⟨g, 0, none⟩) cap ∧ Kept K w (w.setCell ⟨g, i * 22 + f, none⟩ v) := by
  obtain ⟨gk, gp, gl⟩ := h.gk
  obtain ⟨h1, h2, h3, xs, aa, ac, ho, hx, ha, hs⟩ := h
  have kK : Kept K w (w.setCell ⟨g, i * 22 + f, none⟩ v) := (Kept.refl K w).setCell (p := ⟨g, i * 22 + f, none⟩) gk v
  have kG : Kept (fun k => k ≠ g) w (w.setCell ⟨g, i * 22 + f, none⟩ v) := (Kept.refl _ w).setCell (p := ⟨g, i * 22 + f, none⟩) (fun h => h rfl) v
  refine ⟨⟨fun k hk => Nat.lt_of_lt_of_le (h1 k hk) kK.size, h2, ?_, xs.set (i * 22 + f) v, aa, ac, ?_, ?_, fun j hj => ?_, fun j k hj hk => hs j k (by omega) (by omega)⟩, kK⟩
  · rw [kG.block p (fun e => gp e.symm), e1, e2]; exact h3
  · obtain ⟨o1, o2, o3, o4⟩ := ho
    rw [e2]
    refine ⟨by rw [List.length_set]; exact o1, o2, o3, ?_⟩
    rcases o4 with ⟨r1, _⟩ | ⟨g', cur, r1, r2, r3, r4, r5⟩
    · cases r1
    · injection r1 with r1
      injection r1 with r1
      subst r1
      refine .inr ⟨g, _, rfl, r2, heap_setCell_at r3 _ v, by simp [r4], ?_⟩
      rw [Array.toList_setIfInBounds, ← r5, List.take_set]
  · intro j hj f' u hu
    rw [e2] at hj
    have hf' : f' < 22 := by
      rcases Nat.lt_or_ge f' 22 with hh | hh
      · exact hh
      · rw [List.getElem?_eq_none (by rw [Dm.cells_len]; exact hh)] at hu; cases hu
    by_cases c : j = i
    · subst c
      rw [hd] at hu
      by_cases c2 : f' = f
      · subst c2
        have hl : j * 22 + f' < xs.length := by rw [ho.1]; have := Nat.mul_le_mul_right 22 hi; omega
        rw [List.getElem?_set_self (by rw [Dm.cells_len]; exact hf')] at hu
        rw [List.getElem?_set_self hl]
        exact hu
      · rw [List.getElem?_set_ne (by omega)] at hu
        rw [List.getElem?_set_ne (by omega)]
        exact hx j hj f' u hu
    · rw [hc j _ _ c] at hu
      rw [List.getElem?_set_ne (by omega)]
      exact hx j hj f' u hu
  · rw [e2] at hj
    rw [e3]
    refine OwnZ.to (ha j hj) (fun x hx => ((ha j hj).out hx).1) (fun x hx => kG.block x ?_)
    intro e
    subst e
    exact ((ha j hj).out hx).1 (.inr (.inr rfl))

def Dm.setP (S : Dm) (L : Nat → Lk) : Dm := { S with pl := L }
def Dm.setG (S : Dm) (L : Nat → Lk) : Dm := { S with gf := L }
def updL (L : Nat → Lk) (i : Nat) (l : Lk) : Nat → Lk := fun k => if k = i then l else L k
theorem DY.setPup {K : Nat → Prop} {w : World} {p : Nat} {S : Dm} {g : Nat} {cap : Nat} (h : DY K w p S (some ⟨g, 0, none⟩) cap) {i : Nat} (hi : i < S.n) (z : Int) :
    DY K (w.setCell ⟨g, i * 22 + 12, none⟩ (.int .i64 z)) p (S.setP (updL S.pl i { S.pl i with up := z })) (some ⟨g, 0, none⟩) cap ∧ Kept K w (w.setCell ⟨g, i * 22 + 12, none⟩ (.int .i64 z)) :=
  h.set hi (by omega) rfl rfl (fun _ => rfl) (fun j aa ac hj => by simp only [Dm.cells, Dm.setP, updL, if_neg hj]) (fun aa ac => by simp only [Dm.cells, Dm.setP, updL, if_pos]; rfl)
theorem DY.setPprev {K : Nat → Prop} {w : World} {p : Nat} {S : Dm} {g : Nat} {cap : Nat} (h : DY K w p S (some ⟨g, 0, none⟩) cap) {i : Nat} (hi : i < S.n) (z : Int) :
    DY K (w.setCell ⟨g, i * 22 + 13, none⟩ (.int .i64 z)) p (S.setP (updL S.pl i { S.pl i with prev := z })) (some ⟨g, 0, none⟩) cap ∧ Kept K w (w.setCell ⟨g, i * 22 + 13, none⟩ (.int .i64 z)) :=
  h.set hi (by omega) rfl rfl (fun _ => rfl) (fun j aa ac hj => by simp only [Dm.cells, Dm.setP, updL, if_neg hj]) (fun aa ac => by simp only [Dm.cells, Dm.setP, updL, if_pos]; rfl)
theorem DY.setPnext {K : Nat → Prop} {w : World} {p : Nat} {S : Dm} {g : Nat} {cap : Nat} (h : DY K w p S (some ⟨g, 0, none⟩) cap) {i : Nat} (hi : i < S.n) (z : Int) :
    DY K (w.setCell ⟨g, i * 22 + 14, none⟩ (.int .i64 z)) p (S.setP (updL S.pl i { S.pl i with next := z })) (some ⟨g, 0, none⟩) cap ∧ Kept K w (w.setCell ⟨g, i * 22 + 14, none⟩ (.int .i64 z)) :=
  h.set hi (by omega) rfl rfl (fun _ => rfl) (fun j aa ac hj => by simp only [Dm.cells, Dm.setP, updL, if_neg hj]) (fun aa ac => by simp only [Dm.cells, Dm.setP, updL, if_pos]; rfl)
theorem DY.setPfirst {K : Nat → Prop} {w : World} {p : Nat} {S : Dm} {g : Nat} {cap : Nat} (h : DY K w p S (some ⟨g, 0, none⟩) cap) {i : Nat} (hi : i < S.n) (z : Int) :
    DY K (w.setCell ⟨g, i * 22 + 15, none⟩ (.int .i64 z)) p (S.setP (updL S.pl i { S.pl i with first := z })) (some ⟨g, 0, none⟩) cap ∧ Kept K w (w.setCell ⟨g, i * 22 + 15, none⟩ (.int .i64 z)) :=
  h.set hi (by omega) rfl rfl (fun _ => rfl) (fun j aa ac hj => by simp only [Dm.cells, Dm.setP, updL, if_neg hj]) (fun aa ac => by simp only [Dm.cells, Dm.setP, updL, if_pos]; rfl)
theorem DY.setPlast {K : Nat → Prop} {w : World} {p : Nat} {S : Dm} {g : Nat} {cap : Nat} (h : DY K w p S (some ⟨g, 0, none⟩) cap) {i : Nat} (hi : i < S.n) (z : Int) :
    DY K (w.setCell ⟨g, i * 22 + 16, none⟩ (.int .i64 z)) p (S.setP (updL S.pl i { S.pl i with last := z })) (some ⟨g, 0, none⟩) cap ∧ Kept K w (w.setCell ⟨g, i * 22 + 16, none⟩ (.int .i64 z)) :=
  h.set hi (by omega) rfl rfl (fun _ => rfl) (fun j aa ac hj => by simp only [Dm.cells, Dm.setP, updL, if_neg hj]) (fun aa ac => by simp only [Dm.cells, Dm.setP, updL, if_pos]; rfl)
theorem DY.setGup {K : Nat → Prop} {w : World} {p : Nat} {S : Dm} {g : Nat} {cap : Nat} (h : DY K w p S (some ⟨g, 0, none⟩) cap) {i : Nat} (hi : i < S.n) (z : Int) :
    DY K (w.setCell ⟨g, i * 22 + 17, none⟩ (.int .i64 z)) p (S.setG (updL S.gf i { S.gf i with up := z })) (some ⟨g, 0, none⟩) cap ∧ Kept K w (w.setCell ⟨g, i * 22 + 17, none⟩ (.int .i64 z)) :=
  h.set hi (by omega) rfl rfl (fun _ => rfl) (fun j aa ac hj => by simp only [Dm.cells, Dm.setG, updL, if_neg hj]) (fun aa ac => by simp only [Dm.cells, Dm.setG, updL, if_pos]; rfl)
theorem DY.setGprev {K : Nat → Prop} {w : World} {p : Nat} {S : Dm} {g : Nat} {cap : Nat} (h : DY K w p S (some ⟨g, 0, none⟩) cap) {i : Nat} (hi : i < S.n) (z : Int) :
    DY K (w.setCell ⟨g, i * 22 + 18, none⟩ (.int .i64 z)) p (S.setG (updL S.gf i { S.gf i with prev := z })) (some ⟨g, 0, none⟩) cap ∧ Kept K w (w.setCell ⟨g, i * 22 + 18, none⟩ (.int .i64 z)) :=
  h.set hi (by omega) rfl rfl (fun _ => rfl) (fun j aa ac hj => by simp only [Dm.cells, Dm.setG, updL, if_neg hj]) (fun aa ac => by simp only [Dm.cells, Dm.setG, updL, if_pos]; rfl)
theorem DY.setGnext {K : Nat → Prop} {w : World} {p : Nat} {S : Dm} {g : Nat} {cap : Nat} (h : DY K w p S (some ⟨g, 0, none⟩) cap) {i : Nat} (hi : i < S.n) (z : Int) :
    DY K (w.setCell ⟨g, i * 22 + 19, none⟩ (.int .i64 z)) p (S.setG (updL S.gf i { S.gf i with next := z })) (some ⟨g, 0, none⟩) cap ∧ Kept K w (w.setCell ⟨g, i * 22 + 19, none⟩ (.int .i64 z)) :=
  h.set hi (by omega) rfl rfl (fun _ => rfl) (fun j aa ac hj => by simp only [Dm.cells, Dm.setG, updL, if_neg hj]) (fun aa ac => by simp only [Dm.cells, Dm.setG, updL, if_pos]; rfl)
theorem DY.setGfirst {K : Nat → Prop} {w : World} {p : Nat} {S : Dm} {g : Nat} {cap : Nat} (h : DY K w p S (some ⟨g, 0, none⟩) cap) {i : Nat} (hi : i < S.n) (z : Int) :
    DY K (w.setCell ⟨g, i * 22 + 20, none⟩ (.int .i64 z)) p (S.setG (updL S.gf i { S.gf i with first := z })) (some ⟨g, 0, none⟩) cap ∧ Kept K w (w.setCell ⟨g, i * 22 + 20, none⟩ (.int .i64 z)) :=
  h.set hi (by omega) rfl rfl (fun _ => rfl) (fun j aa ac hj => by simp only [Dm.cells, Dm.setG, updL, if_neg hj]) (fun aa ac => by simp only [Dm.cells, Dm.setG, updL, if_pos]; rfl)
theorem DY.setGlast {K : Nat → Prop} {w : World} {p : Nat} {S : Dm} {g : Nat} {cap : Nat} (h : DY K w p S (some ⟨g, 0, none⟩) cap) {i : Nat} (hi : i < S.n) (z : Int) :
    DY K (w.setCell ⟨g, i * 22 + 21, none⟩ (.int .i64 z)) p (S.setG (updL S.gf i { S.gf i with last := z })) (some ⟨g, 0, none⟩) cap ∧ Kept K w (w.setCell ⟨g, i * 22 + 21, none⟩ (.int .i64 z)) :=
  h.set hi (by omega) rfl rfl (fun _ => rfl) (fun j aa ac hj => by simp only [Dm.cells, Dm.setG, updL, if_neg hj]) (fun aa ac => by simp only [Dm.cells, Dm.setG, updL, if_pos]; rfl)
def Dm.setN (S : Dm) (i : Nat) (x : Nd) : Dm := { S with nd := fun k => if k = i then x else S.nd k }
theorem DY.setNshadow {K : Nat → Prop} {w : World} {p : Nat} {S : Dm} {g : Nat} {cap : Nat} (h : DY K w p S (some ⟨g, 0, none⟩) cap) {i : Nat} (hi : i < S.n) (z : Int) :
    DY K (w.setCell ⟨g, i * 22 + 9, none⟩ (.int .i64 z)) p (S.setN i { S.nd i with shadow := z }) (some ⟨g, 0, none⟩) cap ∧ Kept K w (w.setCell ⟨g, i * 22 + 9, none⟩ (.int .i64 z)) :=
  h.set hi (by omega) rfl rfl (fun j => by simp only [Dm.setN]; split <;> simp_all) (fun j aa ac hj => by simp only [Dm.cells, Dm.setN, if_neg hj]) (fun aa ac => by simp only [Dm.cells, Dm.setN, if_pos]; rfl)
theorem DY.setNhost {K : Nat → Prop} {w : World} {p : Nat} {S : Dm} {g : Nat} {cap : Nat} (h : DY K w p S (some ⟨g, 0, none⟩) cap) {i : Nat} (hi : i < S.n) (z : Int) :
    DY K (w.setCell ⟨g, i * 22 + 10, none⟩ (.int .i64 z)) p (S.setN i { S.nd i with host := z }) (some ⟨g, 0, none⟩) cap ∧ Kept K w (w.setCell ⟨g, i * 22 + 10, none⟩ (.int .i64 z)) :=
  h.set hi (by omega) rfl rfl (fun j => by simp only [Dm.setN]; split <;> simp_all) (fun j aa ac hj => by simp only [Dm.cells, Dm.setN, if_neg hj]) (fun aa ac => by simp only [Dm.cells, Dm.setN, if_pos]; rfl)
theorem DY.setNcontent {K : Nat → Prop} {w : World} {p : Nat} {S : Dm} {g : Nat} {cap : Nat} (h : DY K w p S (some ⟨g, 0, none⟩) cap) {i : Nat} (hi : i < S.n) (z : Int) :
    DY K (w.setCell ⟨g, i * 22 + 11, none⟩ (.int .i64 z)) p (S.setN i { S.nd i with content := z }) (some ⟨g, 0, none⟩) cap ∧ Kept K w (w.setCell ⟨g, i * 22 + 11, none⟩ (.int .i64 z)) :=
  h.set hi (by omega) rfl rfl (fun j => by simp only [Dm.setN]; split <;> simp_all) (fun j aa ac hj => by simp only [Dm.cells, Dm.setN, if_neg hj]) (fun aa ac => by simp only [Dm.cells, Dm.setN, if_pos]; rfl)
theorem DY.setNdata {K : Nat → Prop} {w : World} {p : Nat} {S : Dm} {g : Nat} {cap : Nat} (h : DY K w p S (some ⟨g, 0, none⟩) cap) {i : Nat} (hi : i < S.n) (z : List UInt8) :
    DY K (w.setCell ⟨g, i * 22 + 2, none⟩ (sv z)) p (S.setN i { S.nd i with data := z }) (some ⟨g, 0, none⟩) cap ∧ Kept K w (w.setCell ⟨g, i * 22 + 2, none⟩ (sv z)) :=
  h.set hi (by omega) rfl rfl (fun j => by simp only [Dm.setN]; split <;> simp_all) (fun j aa ac hj => by simp only [Dm.cells, Dm.setN, if_neg hj]) (fun aa ac => by simp only [Dm.cells, Dm.setN, if_pos]; rfl)
end Go.Proofs.YthhoicmfmfeehaaGreat

namespace Go.Proofs.YthhoicmfmfeehaaGreat
open Go.RowKit
set_option linter.unusedVariables false

/-- A func value that tells where a node's links lie. -/
def ChV (p o : Nat) (v : Value) : Prop :=
  ∃ f caps, v = .func (.func f) caps #[] ∧ (∀ args X, (callFunc f args).run Tryz.prog X = .ok (.enter f args) X) ∧
    ∀ (X : World) (g n cap i : Nat), X.cell? ⟨p, 1, none⟩ = some (.slice (some ⟨g, 0, none⟩) n cap) → i < n → n ≤ 1000000000 → Calls Tryz.prog f (caps ++ #[.int .i64 (i : Int)]) X fun e Y => e = .returned (.pointer (some ⟨g, i * 22 + o, none⟩)) ∧ Y = X
set_option maxRecDepth 20000 in
theorem placeOf_any (p g n cap i : Nat) (w : World) (hc : w.cell? ⟨p, 1, none⟩ = some (.slice (some ⟨g, 0, none⟩) n cap)) (hi : i < n) (hn : n ≤ 1000000000) :
    Calls Tryz.prog 93 #[.pointer (some ⟨p, 0, none⟩), .int .i64 (i : Int)] w fun e w' => e = .returned (.pointer (some ⟨g, i * 22 + 12, none⟩)) ∧ w' = w := by
  go_enter Tryz.func93, Tryz.ntmps93
  go_wp2
  go_ret
  exact ⟨rfl, rfl⟩
set_option maxRecDepth 20000 in
theorem giftOf_any (p g n cap i : Nat) (w : World) (hc : w.cell? ⟨p, 1, none⟩ = some (.slice (some ⟨g, 0, none⟩) n cap)) (hi : i < n) (hn : n ≤ 1000000000) :
    Calls Tryz.prog 104 #[.pointer (some ⟨p, 0, none⟩), .int .i64 (i : Int)] w fun e w' => e = .returned (.pointer (some ⟨g, i * 22 + 17, none⟩)) ∧ w' = w := by
  go_enter Tryz.func104, Tryz.ntmps104
  go_wp2
  go_ret
  exact ⟨rfl, rfl⟩
abbrev chP (p : Nat) : Value := .func (.func 93) #[.pointer (some ⟨p, 0, none⟩)] #[]
abbrev chG (p : Nat) : Value := .func (.func 104) #[.pointer (some ⟨p, 0, none⟩)] #[]
theorem kids_any (p : Nat) (w : World) : Calls Tryz.prog 58 #[.pointer (some ⟨p, 0, none⟩)] w fun e w' => e = .returned (chP p) ∧ w' = w := by
  go_enter Tryz.func58, Tryz.ntmps58
  go_wp2
  go_ret
  exact ⟨rfl, rfl⟩
theorem gifts_any (p : Nat) (w : World) : Calls Tryz.prog 75 #[.pointer (some ⟨p, 0, none⟩)] w fun e w' => e = .returned (chG p) ∧ w' = w := by
  go_enter Tryz.func75, Tryz.ntmps75
  go_wp2
  go_ret
  exact ⟨rfl, rfl⟩

set_option maxRecDepth 20000 in
theorem at_yes (p g n cap i : Nat) (w : World) (hc : w.cell? ⟨p, 1, none⟩ = some (.slice (some ⟨g, 0, none⟩) n cap)) (hi : i < n) (hn : n ≤ 1000000000) :
    Calls Tryz.prog 57 #[.pointer (some ⟨p, 0, none⟩), .int .i64 (i : Int)] w fun e w' => e = .returned (.pointer (some ⟨g, i * 22, none⟩)) ∧ w' = w := by
  go_enter Tryz.func57, Tryz.ntmps57
  go_wp2
  go_ret
  exact ⟨rfl, rfl⟩
set_option maxRecDepth 20000 in
theorem at_no (p n cap : Nat) (ga : Option Addr) (i : Int) (w : World) (hc : w.cell? ⟨p, 1, none⟩ = some (.slice ga n cap)) (hi : i < 0 ∨ (n : Int) ≤ i) (hn : n ≤ 1000000000) :
    Calls Tryz.prog 57 #[.pointer (some ⟨p, 0, none⟩), .int .i64 i] w fun e w' => e = .returned (.pointer none) ∧ w' = w := by
  rcases hi with hi | hi
  · have h1 : decide (i < 0) = true := decide_eq_true hi
    go_enter Tryz.func57, Tryz.ntmps57
    go_wp2
    go_ret
    exact ⟨rfl, rfl⟩
  · have h1 : decide (i < 0) = false := decide_eq_false (by omega)
    have h2 : decide (i ≥ (n : Int)) = true := decide_eq_true (by omega)
    go_enter Tryz.func57, Tryz.ntmps57
    go_wp2
    go_ret
    exact ⟨rfl, rfl⟩
end Go.Proofs.YthhoicmfmfeehaaGreat
