/-
  Small laws on memory, of no program: a set K of blocks that a call leaves alone (Kept), a row of one-cell elements that a slice value owns outside K (Own), and what append and a conversion do to it.
-/
import Derived.WalkKit
import Derived.WalkSpells
import Derived.WalkLawsBesides
import Derived.Deep.Upon
import Derived.Laws.IdiomStrings
namespace Go.Proofs.Ytffllhohlfblnaa
open Go.RowKit

/-- A byte as a cell. -/
abbrev bv (c : UInt8) : Value := .int .u8 (c.toNat : Int)
def bvs (l : List UInt8) : List Value := l.map bv
theorem bvs_length (l : List UInt8) : (bvs l).length = l.length := by simp [bvs]
theorem bvs_append (l m : List UInt8) : bvs (l ++ m) = bvs l ++ bvs m := by simp [bvs]
theorem bvs_take (l : List UInt8) (k : Nat) : bvs (l.take k) = (bvs l).take k := by simp [bvs, List.map_take]
theorem bvs_one (l : List UInt8) : ∀ u ∈ bvs l, u.oneCell' = true := by
  intro u hu
  obtain ⟨c, _, rfl⟩ := List.mem_map.1 hu
  rfl

/-- The blocks of K are as they were. -/
structure Kept (K : Nat → Prop) (w w' : World) : Prop where
  os : w'.os = w.os
  tape : w'.tape = w.tape
  output : w'.output = w.output
  size : w.heap.size ≤ w'.heap.size
  block : ∀ k, K k → w'.heap[k]? = w.heap[k]?

theorem Kept.refl (K : Nat → Prop) (w : World) : Kept K w w := ⟨rfl, rfl, rfl, Nat.le_refl _, fun _ _ => rfl⟩
theorem Kept.trans {K : Nat → Prop} {a b c : World} (h : Kept K a b) (k : Kept K b c) : Kept K a c :=
  ⟨k.os.trans h.os, k.tape.trans h.tape, k.output.trans h.output, Nat.le_trans h.size k.size, fun i hi => (k.block i hi).trans (h.block i hi)⟩
theorem Kept.mono {K K' : Nat → Prop} {w w' : World} (h : Kept K w w') (hK : ∀ k, K' k → K k) : Kept K' w w' :=
  ⟨h.os, h.tape, h.output, h.size, fun k hk => h.block k (hK k hk)⟩
theorem Kept.drew {K : Nat → Prop} {a w : World} (h : Kept K a w) : Kept K a w.drew := ⟨h.os, h.tape, h.output, h.size, h.block⟩
theorem Kept.drewN {K : Nat → Prop} {a w : World} (h : Kept K a w) (n : Nat) : Kept K a (w.drewN n) := ⟨h.os, h.tape, h.output, h.size, h.block⟩
theorem Kept.alloc {K : Nat → Prop} {a w : World} (h : Kept K a w) (hK : ∀ k, K k → k < w.heap.size) (o : Obj) : Kept K a (w.alloc o) :=
  h.trans ⟨rfl, rfl, rfl, by simp, fun k hk => Below.heap_alloc _ _ _ (hK k hk)⟩
theorem Kept.setCell {K : Nat → Prop} {a w : World} (h : Kept K a w) {p : Addr} (hp : ¬ K p.block) (u : Value) : Kept K a (w.setCell p u) :=
  h.trans ⟨rfl, rfl, rfl, by simp, fun k hk => Below.heap_setCell _ _ _ _ (fun e => hp (e ▸ hk))⟩
theorem Kept.cell {K : Nat → Prop} {w w' : World} (h : Kept K w w') {p : Addr} (hp : K p.block) : w'.cell? p = w.cell? p := World.cell?_of_block (w := w) (h.block p.block hp)
theorem Kept.frozen {K : Nat → Prop} {w w' : World} (h : Kept K w w') {p : Addr} (hp : K p.block) : w'.frozen? p = w.frozen? p := World.frozen?_of_block (w := w) (h.block p.block hp)
theorem Kept.below {B : Nat} {w w' : World} (h : Kept (fun k => k < B) w w') : Below B w w' := ⟨h.os, h.tape, h.output, h.size, h.block⟩
theorem Below.kept {B : Nat} {w w' : World} (h : Below B w w') : Kept (fun k => k < B) w w' := ⟨h.os, h.tape, h.output, h.size, h.block⟩

theorem heap_drew (w : World) : w.drew.heap = w.heap := rfl
/-- A cell of a block that is known whole. -/
theorem cell_block {w : World} {b : Nat} {cur : Array Value} {e : TypeId} {f : Nat × Nat} (h : w.heap[b]? = some (.cells cur e f)) (i : Nat) : w.cell? ⟨b, i, none⟩ = cur[i]? := by
  simp [World.cell?, h]
theorem frozen_block {w : World} {b : Nat} {cur : Array Value} {e : TypeId} (h : w.heap[b]? = some (.cells cur e (0, 0))) (i : Nat) : w.frozen? ⟨b, i, none⟩ = false := by
  simp [World.frozen?, h]
theorem lt_block {w : World} {b : Nat} {o : Obj} (h : w.heap[b]? = some o) : b < w.heap.size := by
  rcases Nat.lt_or_ge b w.heap.size with hlt | hge
  · exact hlt
  · rw [Array.getElem?_eq_none hge] at h; cases h
theorem heap_setCell_at {w : World} {b : Nat} {cur : Array Value} {e : TypeId} {f : Nat × Nat} (h : w.heap[b]? = some (.cells cur e f)) (i : Nat) (v : Value) :
    (w.setCell ⟨b, i, none⟩ v).heap[b]? = some (.cells (cur.setIfInBounds i v) e f) := by
  simp [World.setCell, Array.getElem?_modify, h]
theorem heap_alloc_past {w : World} {b : Nat} {o : Obj} (h : w.heap[b]? = some o) (p : Obj) : (w.alloc p).heap[b]? = some o := by
  rw [Below.heap_alloc _ _ _ (lt_block h), h]
theorem heap_setCells_at {b : Nat} {e : TypeId} {f : Nat × Nat} : ∀ (vs : List Value) (o : Nat) (w : World) (cur : Array Value), w.heap[b]? = some (.cells cur e f) → o + vs.length ≤ cur.size →
    ∃ c', (w.setCells b o vs).heap[b]? = some (.cells c' e f) ∧ c'.toList = cur.toList.take o ++ vs ++ cur.toList.drop (o + vs.length)
  | [], o, w, cur, h, _ => ⟨cur, h, by simp⟩
  | v :: r, o, w, cur, h, hl => by
    simp only [List.length_cons] at hl
    obtain ⟨c', h1, h2⟩ := heap_setCells_at (b := b) (e := e) (f := f) r (o + 1) (w.setCell ⟨b, o, none⟩ v) _ (heap_setCell_at h o v) (by simp; omega)
    refine ⟨c', h1, ?_⟩
    rw [h2]
    have ho : o < cur.toList.length := by simp; omega
    simp only [Array.toList_setIfInBounds, List.length_cons]
    rw [List.take_succ_eq_append_getElem (by simpa using ho), List.take_set_of_le (Nat.le_refl o), List.drop_set_of_lt (by omega)]
    simp [Nat.add_assoc, Nat.add_comm 1]

/-- THE SLICE VALUE '.slice ao n cap' OWNS THE CELLS xs, in a block outside K, from its head on; or it is nil. -/
def Own (K : Nat → Prop) (w : World) (e : TypeId) (ao : Option Addr) (n cap : Nat) (xs : List Value) : Prop :=
  xs.length = n ∧ n ≤ cap ∧ cap ≤ maxLen ∧ ((ao = none ∧ cap = 0) ∨
    ∃ g cur, ao = some ⟨g, 0, none⟩ ∧ ¬ K g ∧ w.heap[g]? = some (.cells cur e (0, 0)) ∧ cur.size = cap ∧ cur.toList.take n = xs)

theorem Own.nil (K : Nat → Prop) (w : World) (e : TypeId) : Own K w e none 0 0 [] := ⟨rfl, Nat.le_refl _, Nat.zero_le _, .inl ⟨rfl, rfl⟩⟩
theorem Own.cast {K : Nat → Prop} {w : World} {e : TypeId} {ao : Option Addr} {n n' cap : Nat} {xs xs' : List Value} (h : Own K w e ao n cap xs) (hn : n = n') (hx : xs = xs') : Own K w e ao n' cap xs' := by subst hn; subst hx; exact h
theorem Own.of {K : Nat → Prop} {w w' : World} {e : TypeId} {ao : Option Addr} {n cap : Nat} {xs : List Value} (h : Own K w e ao n cap xs)
    (hb : ∀ g, ¬ K g → g < w.heap.size → w'.heap[g]? = w.heap[g]?) : Own K w' e ao n cap xs := by
  obtain ⟨h1, h2, h3, h4⟩ := h
  refine ⟨h1, h2, h3, ?_⟩
  rcases h4 with h4 | ⟨g, cur, r1, r2, r3, r4⟩
  · exact .inl h4
  · exact .inr ⟨g, cur, r1, r2, by rw [hb g r2 (lt_block r3)]; exact r3, r4⟩
theorem Own.alloc {K : Nat → Prop} {w : World} {e : TypeId} {ao : Option Addr} {n cap : Nat} {xs : List Value} (h : Own K w e ao n cap xs) (o : Obj) : Own K (w.alloc o) e ao n cap xs :=
  h.of fun _ _ hg => Below.heap_alloc _ _ _ hg
theorem Own.drew {K : Nat → Prop} {w : World} {e : TypeId} {ao : Option Addr} {n cap : Nat} {xs : List Value} (h : Own K w e ao n cap xs) : Own K w.drew e ao n cap xs := h
theorem Own.setCell {K : Nat → Prop} {w : World} {e : TypeId} {ao : Option Addr} {n cap : Nat} {xs : List Value} (h : Own K w e ao n cap xs) {p : Addr} (hp : K p.block) (u : Value) : Own K (w.setCell p u) e ao n cap xs :=
  h.of fun _ hg _ => Below.heap_setCell _ _ _ _ (fun e => hg (e ▸ hp))
theorem Own.take {K : Nat → Prop} {w : World} {e : TypeId} {ao : Option Addr} {n cap : Nat} {xs : List Value} (h : Own K w e ao n cap xs) (k : Nat) (hk : k ≤ n) : Own K w e ao k cap (xs.take k) := by
  obtain ⟨h1, h2, h3, h4⟩ := h
  refine ⟨by simp; omega, by omega, h3, ?_⟩
  rcases h4 with h4 | ⟨g, cur, r1, r2, r3, r4, r5⟩
  · exact .inl h4
  · refine .inr ⟨g, cur, r1, r2, r3, r4, ?_⟩
    rw [← r5, List.take_take, Nat.min_eq_left hk]
theorem Own.mono {K K' : Nat → Prop} {w : World} {e : TypeId} {ao : Option Addr} {n cap : Nat} {xs : List Value} (h : Own K w e ao n cap xs) (hK : ∀ g, (∃ o, w.heap[g]? = some o) → ao = some ⟨g, 0, none⟩ → ¬ K g → ¬ K' g) : Own K' w e ao n cap xs := by
  obtain ⟨h1, h2, h3, h4⟩ := h
  refine ⟨h1, h2, h3, ?_⟩
  rcases h4 with h4 | ⟨g, cur, r1, r2, r3, r4⟩
  · exact .inl h4
  · exact .inr ⟨g, cur, r1, hK g ⟨_, r3⟩ r1 r2, r3, r4⟩
/-- The cells, where the value is not nil. -/
theorem Own.cells {K : Nat → Prop} {w : World} {e : TypeId} {ao : Option Addr} {n cap : Nat} {xs : List Value} (h : Own K w e ao n cap xs) :
    (ao = none ∧ n = 0 ∧ cap = 0 ∧ xs = []) ∨ ∃ g, ao = some ⟨g, 0, none⟩ ∧ ¬ K g ∧ g < w.heap.size ∧ (∀ j u, xs[j]? = some u → w.cell? ⟨g, j, none⟩ = some u) ∧ ∀ j, w.frozen? ⟨g, j, none⟩ = false := by
  obtain ⟨h1, h2, h3, h4⟩ := h
  rcases h4 with ⟨r1, r2⟩ | ⟨g, cur, r1, r2, r3, r4, r5⟩
  · exact .inl ⟨r1, by omega, r2, List.eq_nil_of_length_eq_zero (by omega)⟩
  · refine .inr ⟨g, r1, r2, lt_block r3, fun j u hj => ?_, fun j => frozen_block r3 j⟩
    rw [cell_block r3, ← hj, ← r5]
    have hjl : j < xs.length := by
      rcases Nat.lt_or_ge j xs.length with hl | hg
      · exact hl
      · rw [List.getElem?_eq_none hg] at hj; cases hj
    rw [List.getElem?_take, if_pos (by omega), Array.getElem?_toList]

section
variable {P : Program}

/-- append ONTO WHAT IS OWNED, out of whatever source. -/
theorem run_app {K : Nat → Prop} (w : World) (t tx ty e : TypeId) (i : TypeInfo) (z : Value) (ht : P.underlying t = some (.slice e)) (hi : P.info? e = some i) (hz : i.zero = some z) (hsize : i.size = 1) (hzs : z.cells.size = 1)
    {ao : Option Addr} {n cap : Nat} {xs : List Value} (hown : Own K w e ao n cap xs) (x : Value) (m : Nat) (news : List Value) (hs : Src P 1 tx x m news w)
    (hK : ∀ k, K k → k < w.heap.size) (h63 : n + m ≤ maxLen) (hbytes : (n + m) * i.bytes ≤ 140737488355328) :
    ∃ ao' cap' w', (Builtin.append_ #[t, tx] ty #[.slice ao n cap, x]).run P w = .ok (.slice ao' (n + m) cap') w' ∧ Own K w' e ao' (n + m) cap' (xs ++ news) ∧ Kept K w w' ∧ (0 < n + m → ao'.isSome) := by
  have hsmall : n + m ≤ 9223372036854775807 := by simp only [maxLen] at h63; omega
  have hnl : news.length = m := by simpa using hs.newsLen
  have hs' : Src P i.size tx x m news w := by rw [hsize]; exact hs
  obtain ⟨h1, h2, h3, h4⟩ := hown
  have grow : cap < n + m → (Builtin.firstCells i.size n (.slice ao n cap)).run P w.drew = .ok xs.toArray w.drew →
      ∃ ao' cap' w', (Builtin.append_ #[t, tx] ty #[.slice ao n cap, x]).run P w = .ok (.slice ao' (n + m) cap') w' ∧ Own K w' e ao' (n + m) cap' (xs ++ news) ∧ Kept K w w' ∧ (0 < n + m → ao'.isSome) := by
    intro hg hold
    have hr := run_append_grow_src (P := P) w t tx ty e i z ht hi hz ao n cap xs hold x m news hs' hg (by omega) (growslice_fits hg hbytes)
    have hge := grownCap_ge w (n + m) cap e
    refine ⟨_, _, _, hr, ⟨by simp [h1, hnl], hge, grownCap_le_maxLen w (n + m) cap e h63, .inr ⟨w.heap.size, _, rfl, fun hk => Nat.lt_irrefl _ (hK _ hk), heap_alloc_new w.drew _, ?_, ?_⟩⟩, (Kept.refl K w).drew.alloc (by simpa using hK) _, fun _ => rfl⟩
    · simp only [Array.size_append, List.size_toArray, List.length_append, size_zeroCells, hzs, h1, hnl]
      omega
    · simp only [Array.toList_append]
      have hl : (xs ++ news).length = n + m := by simp [h1, hnl]
      rw [← hl]
      exact List.take_left
  rcases h4 with ⟨rfl, rfl⟩ | ⟨g, cur, rfl, r2, r3, r4, r5⟩
  · have hn0 : n = 0 := by omega
    subst hn0
    have hx : xs = [] := List.eq_nil_of_length_eq_zero h1
    subst hx
    by_cases hm : m = 0
    · subst hm
      have hnn : news = [] := List.eq_nil_of_length_eq_zero hnl
      subst hnn
      exact ⟨none, 0, w, run_append_nothing w t tx ty e i ht hi none 0 0 (Nat.le_refl _) x hs', ⟨rfl, Nat.le_refl _, Nat.zero_le _, .inl ⟨rfl, rfl⟩⟩, Kept.refl K w, fun h => absurd h (by omega)⟩
    · exact grow (by omega) (run_firstCells_none w.drew i.size 0 0 0)
  · have hcells : ∀ j u, xs[j]? = some u → w.cell? ((⟨g, 0, none⟩ : Addr).add j) = some u := by
      intro j u hj
      have hjl : j < xs.length := by
        rcases Nat.lt_or_ge j xs.length with hl | hg
        · exact hl
        · rw [List.getElem?_eq_none hg] at hj; cases hj
      have : (⟨g, 0, none⟩ : Addr).add j = ⟨g, j, none⟩ := by rw [Addr.add_lit, Nat.zero_add]
      rw [this, cell_block r3, ← hj, ← r5, List.getElem?_take, if_pos (by omega), Array.getElem?_toList]
    by_cases hroom : n + m ≤ cap
    · have hr := run_append_room_src (P := P) w t tx ty e i ht hi g 0 n cap x m news hs' hroom
        (fun j hj => by rw [cell_block r3]; simp only [hsize]; rw [Array.getElem?_eq_getElem (by omega)]; rfl)
        (fun j hj => frozen_block r3 _)
      simp only [hsize, Nat.zero_add, Nat.mul_one] at hr
      obtain ⟨c', q1, q2⟩ := heap_setCells_at (b := g) (e := e) (f := (0, 0)) news n w cur r3 (by omega)
      refine ⟨_, _, _, hr, ⟨by simp [h1, hnl], hroom, h3, .inr ⟨g, c', rfl, r2, q1, ?_, ?_⟩⟩, ⟨?_, ?_, ?_, ?_, ?_⟩, fun _ => rfl⟩
      · have := congrArg List.length q2
        simp at this
        omega
      · rw [q2, r5]
        have hl : (xs ++ news).length = n + m := by simp [h1, hnl]
        rw [← hl]
        exact List.take_left
      · exact World.os_setCells w g n news
      · have key : ∀ (vs : List Value) (o : Nat) (v : World), (v.setCells g o vs).tape = v.tape := by
          intro vs
          induction vs with
          | nil => intro o v; rfl
          | cons a r ih => intro o v; rw [World.setCells, ih]; rfl
        exact key news n w
      · exact World.output_setCells w g n news
      · have key : ∀ (vs : List Value) (o : Nat) (v : World), (v.setCells g o vs).heap.size = v.heap.size := by
          intro vs
          induction vs with
          | nil => intro o v; rfl
          | cons a r ih => intro o v; rw [World.setCells, ih]; simp
        rw [key]; exact Nat.le_refl _
      · intro k hk
        exact World.heap_setCells_other w g n news (hK k hk) (fun e => r2 (e ▸ hk))
    · exact grow (by omega) (run_firstCells_some w.drew i.size n ⟨g, 0, none⟩ n cap xs (by rw [hsize, h1]; simp) (by simpa using hcells))

/-- The operation, for a plain region's list. -/
theorem wpList_app {K : Nat → Prop} {w : World} {ops : Array Oper} {rest : List Oper} {o : Oper} {a : Act} {Q : Exit → Act → World → Prop} (hgd : o.guard = none) (s x : Operand) (t tx e : TypeId)
    (ho : o.op = .call { callee := .builtin .append, args := #[s, x], argTypes := #[t, tx] })
    (i : TypeInfo) (z : Value) (ht : P.underlying t = some (.slice e)) (hi : P.info? e = some i) (hz : i.zero = some z) (hsize : i.size = 1) (hzs : z.cells.size = 1)
    (ao : Option Addr) (n cap : Nat) (xs : List Value) (hs : a.eval s = .slice ao n cap) (hown : Own K w e ao n cap xs) (v : Value) (m : Nat) (news : List Value) (hx : a.eval x = v) (hsrc : Src P 1 tx v m news w)
    (hK : ∀ k, K k → k < w.heap.size) (h63 : n + m ≤ maxLen) (hbytes : (n + m) * i.bytes ≤ 140737488355328)
    (h : ∀ ao' cap' w', Own K w' e ao' (n + m) cap' (xs ++ news) → Kept K w w' → (0 < n + m → ao'.isSome) → wpList P ops Q rest (a.put o.dst (.slice ao' (n + m) cap')) w') : wpList P ops Q (o :: rest) a w := by
  refine wpList_plain hgd fun _ hK' => ?_
  obtain ⟨ao', cap', w', hr, h2, h3, h4⟩ := run_app (P := P) w t tx o.type e i z ht hi hz hsize hzs hown v m news hsrc hK h63 hbytes
  unfold Oper.wp execOp
  simp only [ho, resolve, invoke, builtin, Sem.run_bind, Sem.run_pure, Result.andThen_ok, List.map_toArray, List.map_cons, List.map_nil, hs, hx, hr]
  exact hK' _ _ (h ao' cap' w' h2 h3 h4)

/-- At a step of a region that draws its order. -/
theorem step_app {K : Nat → Prop} {w : World} {ops : Array Oper} {o : Oper} {a : Act} {Kn : Act → World → Prop} {Q : Exit → Act → World → Prop} {E : Prop} (hgd : o.guard = none) (s x : Operand) (t tx e : TypeId)
    (ho : o.op = .call { callee := .builtin .append, args := #[s, x], argTypes := #[t, tx] })
    (i : TypeInfo) (z : Value) (ht : P.underlying t = some (.slice e)) (hi : P.info? e = some i) (hz : i.zero = some z) (hsize : i.size = 1) (hzs : z.cells.size = 1)
    (ao : Option Addr) (n cap : Nat) (xs : List Value) (hs : a.eval s = .slice ao n cap) (hown : Own K w e ao n cap xs) (v : Value) (m : Nat) (news : List Value) (hx : a.eval x = v) (hsrc : Src P 1 tx v m news w)
    (hK : ∀ k, K k → k < w.heap.size) (h63 : n + m ≤ maxLen) (hbytes : (n + m) * i.bytes ≤ 140737488355328)
    (h : ∀ ao' cap' w', Own K w' e ao' (n + m) cap' (xs ++ news) → Kept K w w' → (0 < n + m → ao'.isSome) → Kn (a.put o.dst (.slice ao' (n + m) cap')) w') :
    if Region.wanted o (yielded ops a.tmps) = true then Oper.wp P o a w Kn Q else E := by
  have hw : Region.wanted o (yielded ops a.tmps) = true := by simp [Region.wanted, hgd]
  rw [if_pos hw]
  obtain ⟨ao', cap', w', hr, h2, h3, h4⟩ := run_app (P := P) w t tx o.type e i z ht hi hz hsize hzs hown v m news hsrc hK h63 hbytes
  unfold Oper.wp execOp
  simp only [ho, resolve, invoke, builtin, Sem.run_bind, Sem.run_pure, Result.andThen_ok, List.map_toArray, List.map_cons, List.map_nil, hs, hx, hr]
  exact h ao' cap' w' h2 h3 h4

/-- What 'append(s, x)' lays for its one element. -/
theorem src_new1 {tx e e' : TypeId} (X : World) (n : Nat) (v : Value) (hk : P.underlying tx = some (.slice e')) (h1 : v.oneCell' = true) (hn : n = X.heap.size) :
    Src P 1 tx (.slice (some ⟨n, 0, none⟩) 1 1) 1 [v] (X.alloc (.cells #[v] e)) := by
  subst hn
  refine Src.ofSlice _ hk _ 1 1 [v] rfl (fun j u hj => ?_) (fun u hu => ?_)
  · match j, hj with
    | 0, hj =>
      simp at hj
      subst hj
      rw [Addr.add_lit]
      simp
  · simp at hu
    subst hu
    exact h1

theorem src_new {tx e e' : TypeId} (X : World) (N n : Nat) (vs : List Value) (cur : Array Value) (hk : P.underlying tx = some (.slice e')) (h1 : ∀ u ∈ vs, u.oneCell' = true) (hN : N = X.heap.size) (hc : cur.toList = vs) (hn : n = vs.length) :
    Src P 1 tx (.slice (some ⟨N, 0, none⟩) n n) n vs (X.alloc (.cells cur e)) := by
  subst hN
  subst hn
  refine Src.ofSlice _ hk _ _ _ vs (by simp) (fun j u hj => ?_) h1
  rw [Addr.add_lit, Nat.zero_add, cell_block (heap_alloc_new X _), ← Array.getElem?_toList, hc, hj]

/-- 'append(s, x)' of one element, at a plain region's list: the element's own block has just been laid. -/
theorem wpList_app1 {K : Nat → Prop} {X : World} {ops : Array Oper} {rest : List Oper} {o : Oper} {a : Act} {Q : Exit → Act → World → Prop} (hgd : o.guard = none) (s x : Operand) (t e : TypeId)
    (ho : o.op = .call { callee := .builtin .append, args := #[s, x], argTypes := #[t, t] })
    (i : TypeInfo) (z : Value) (ht : P.underlying t = some (.slice e)) (hi : P.info? e = some i) (hz : i.zero = some z) (hsize : i.size = 1) (hzs : z.cells.size = 1) (hby : i.bytes ≤ 64)
    (ao : Option Addr) (n cap : Nat) (xs : List Value) (hs : a.eval s = .slice ao n cap) (v : Value) (h1 : v.oneCell' = true) (N : Nat) (hx : a.eval x = .slice (some ⟨N, 0, none⟩) 1 1) (hb : n ≤ 1099511627776)
    (hown : Own K X e ao n cap xs) (hK : ∀ k, K k → k < X.heap.size) (hN : N = X.heap.size)
    (h : ∀ ao' cap' w', Own K w' e ao' (n + 1) cap' (xs ++ [v]) → Kept K X w' → wpList P ops Q rest (a.put o.dst (.slice ao' (n + 1) cap')) w') : wpList P ops Q (o :: rest) a (X.alloc (.cells #[v] e)) := by
  have hbb : (n + 1) * i.bytes ≤ (1099511627776 + 1) * 64 := Nat.mul_le_mul (by omega) hby
  refine wpList_app (K := K) hgd s x t t e ho i z ht hi hz hsize hzs ao n cap xs hs (hown.alloc _) _ 1 [v] hx (src_new1 X N v ht h1 hN) (fun k hk => by have := hK k hk; simp; omega) (by unfold maxLen; omega) (by omega) ?_
  intro ao' cap' w' q1 q2 _
  exact h ao' cap' w' q1 (((Kept.refl K X).alloc hK _).trans q2)

/-- 'append(s, str...)' at a plain region's list. -/
theorem wpList_appS {K : Nat → Prop} {X : World} {ops : Array Oper} {rest : List Oper} {o : Oper} {a : Act} {Q : Exit → Act → World → Prop} (hgd : o.guard = none) (s x : Operand) (t u e : TypeId)
    (ho : o.op = .call { callee := .builtin .append, args := #[s, x], argTypes := #[t, u] })
    (i : TypeInfo) (z : Value) (ht : P.underlying t = some (.slice e)) (hu : P.underlying u = some .string) (hi : P.info? e = some i) (hz : i.zero = some z) (hsize : i.size = 1) (hzs : z.cells.size = 1) (hby : i.bytes ≤ 64)
    (ao : Option Addr) (n cap : Nat) (xs : List Value) (hs : a.eval s = .slice ao n cap) (str : ByteArray) (hx : a.eval x = .string str) (m : Nat) (hm : str.size = m) (hb : n + m ≤ 1099511627776)
    (hown : Own K X e ao n cap xs) (hK : ∀ k, K k → k < X.heap.size)
    (h : ∀ ao' cap' w', Own K w' e ao' (n + m) cap' (xs ++ bvs str.data.toList) → Kept K X w' → wpList P ops Q rest (a.put o.dst (.slice ao' (n + m) cap')) w') : wpList P ops Q (o :: rest) a X := by
  subst hm
  have hbb : (n + str.size) * i.bytes ≤ 1099511627776 * 64 := Nat.mul_le_mul (by omega) hby
  refine wpList_app (K := K) hgd s x t u e ho i z ht hi hz hsize hzs ao n cap xs hs hown _ str.size (byteCells str) hx (Src.ofString X hu str) hK (by unfold maxLen; omega) (by omega) ?_
  intro ao' cap' w' q1 q2 _
  exact h ao' cap' w' q1 q2

/-- 'string(b)' of an owned row of bytes. -/
theorem run_string_own {K : Nat → Prop} (w : World) (src dst e : TypeId) {ao : Option Addr} {n cap : Nat} {l : List UInt8} (hs : P.underlying src = some (.slice e)) (he : P.underlying e = some (.int .u8)) (hd : P.underlying dst = some .string)
    (hown : Own K w e ao n cap (bvs l)) : (convert src dst (.slice ao n cap)).run P w = .ok (.string ⟨l.toArray⟩) w := by
  have hn : n = l.length := by rw [← hown.1, bvs_length]
  rcases hown.cells with ⟨rfl, h0, rfl, hl⟩ | ⟨g, rfl, _, _, hc, _⟩
  · have : l = [] := by simpa [bvs] using hl
    subst this
    subst h0
    rw [run_convert_bytes_string w src dst e none 0 0 hs he hd]
    simp [Conv.bytesToString]
    rfl
  · subst hn
    refine run_convert_bytes_back w src dst e ⟨g, 0, none⟩ cap l hs he hd fun j hj => ?_
    have : (⟨g, 0, none⟩ : Addr).add j = ⟨g, j, none⟩ := by rw [Addr.add_lit, Nat.zero_add]
    rw [this]
    exact hc j _ (by simp [bvs, bv, hj])
end

end Go.Proofs.Ytffllhohlfblnaa
