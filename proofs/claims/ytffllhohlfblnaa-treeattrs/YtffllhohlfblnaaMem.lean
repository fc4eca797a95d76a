/-
  Small laws on memory, of no program: a slice that owns elements of any size (OwnZ), append onto it, and apart from others.
-/
import Derived.Test.YtffllhohlfblnaaBase
namespace Go.Proofs.Ytffllhohlfblnaa
open Go.RowKit

/-- The block that a slice's value names. -/
def blkOf (ao : Option Addr) (k : Nat) : Prop := ao = some ⟨k, 0, none⟩

/-- The slice value '.slice ao n cap' owns n elements of z cells each, in a block outside K, from its head on; or it is nil. -/
def OwnZ (K : Nat → Prop) (w : World) (e : TypeId) (z : Nat) (ao : Option Addr) (n cap : Nat) (xs : List Value) : Prop :=
  xs.length = n * z ∧ n ≤ cap ∧ cap ≤ maxLen ∧ ((ao = none ∧ cap = 0) ∨
    ∃ g cur, ao = some ⟨g, 0, none⟩ ∧ ¬ K g ∧ w.heap[g]? = some (.cells cur e (0, 0)) ∧ cur.size = cap * z ∧ cur.toList.take (n * z) = xs)

theorem OwnZ.nil (K : Nat → Prop) (w : World) (e : TypeId) (z : Nat) : OwnZ K w e z none 0 0 [] := ⟨by simp, Nat.le_refl _, Nat.zero_le _, .inl ⟨rfl, rfl⟩⟩
theorem OwnZ.out {K : Nat → Prop} {w : World} {e : TypeId} {z : Nat} {ao : Option Addr} {n cap : Nat} {xs : List Value} (h : OwnZ K w e z ao n cap xs) {g : Nat} (hg : blkOf ao g) : ¬ K g ∧ g < w.heap.size := by
  obtain ⟨_, _, _, h4⟩ := h
  rcases h4 with ⟨r, _⟩ | ⟨g', cur, r1, r2, r3, _⟩
  · rw [r] at hg; cases hg
  · rw [r1] at hg
    injection hg with hg
    injection hg with hg
    subst hg
    exact ⟨r2, lt_block r3⟩
/-- Elsewhere, apart from other blocks, where its own block is as it was. -/
theorem OwnZ.to {K K' : Nat → Prop} {w w' : World} {e : TypeId} {z : Nat} {ao : Option Addr} {n cap : Nat} {xs : List Value} (h : OwnZ K w e z ao n cap xs) (hk : ∀ g, blkOf ao g → ¬ K' g) (hb : ∀ g, blkOf ao g → w'.heap[g]? = w.heap[g]?) :
    OwnZ K' w' e z ao n cap xs := by
  obtain ⟨h1, h2, h3, h4⟩ := h
  refine ⟨h1, h2, h3, ?_⟩
  rcases h4 with h4 | ⟨g, cur, r1, r2, r3, r4⟩
  · exact .inl h4
  · exact .inr ⟨g, cur, r1, hk g r1, by rw [hb g r1]; exact r3, r4⟩
theorem OwnZ.cell {K : Nat → Prop} {w : World} {e : TypeId} {z : Nat} {ao : Option Addr} {n cap : Nat} {xs : List Value} (h : OwnZ K w e z ao n cap xs) {j : Nat} {u : Value} (hj : xs[j]? = some u) : ∃ g, ao = some ⟨g, 0, none⟩ ∧ w.cell? ⟨g, j, none⟩ = some u := by
  obtain ⟨h1, h2, h3, h4⟩ := h
  have hjl : j < xs.length := by
    rcases Nat.lt_or_ge j xs.length with hl | hg
    · exact hl
    · rw [List.getElem?_eq_none hg] at hj; cases hj
  rcases h4 with ⟨r1, r2⟩ | ⟨g, cur, r1, r2, r3, r4, r5⟩
  · have : n = 0 := by omega
    subst this
    omega
  · refine ⟨g, r1, ?_⟩
    rw [cell_block r3, ← hj, ← r5, List.getElem?_take, if_pos (by omega), Array.getElem?_toList]
theorem Own.out {K : Nat → Prop} {w : World} {e : TypeId} {ao : Option Addr} {n cap : Nat} {xs : List Value} (h : Own K w e ao n cap xs) {g : Nat} (hg : blkOf ao g) : ¬ K g ∧ g < w.heap.size := by
  obtain ⟨_, _, _, h4⟩ := h
  rcases h4 with ⟨r, _⟩ | ⟨g', cur, r1, r2, r3, _⟩
  · rw [r] at hg; cases hg
  · rw [r1] at hg
    injection hg with hg
    injection hg with hg
    subst hg
    exact ⟨r2, lt_block r3⟩
theorem Own.to {K K' : Nat → Prop} {w w' : World} {e : TypeId} {ao : Option Addr} {n cap : Nat} {xs : List Value} (h : Own K w e ao n cap xs) (hk : ∀ g, blkOf ao g → ¬ K' g) (hb : ∀ g, blkOf ao g → w'.heap[g]? = w.heap[g]?) :
    Own K' w' e ao n cap xs := by
  obtain ⟨h1, h2, h3, h4⟩ := h
  refine ⟨h1, h2, h3, ?_⟩
  rcases h4 with h4 | ⟨g, cur, r1, r2, r3, r4⟩
  · exact .inl h4
  · exact .inr ⟨g, cur, r1, hk g r1, by rw [hb g r1]; exact r3, r4⟩

section
variable {P : Program}

/-- append of one element onto what is owned. -/
theorem run_appZ {K : Nat → Prop} (w : World) (t tx ty e : TypeId) (i : TypeInfo) (zv : Value) (ht : P.underlying t = some (.slice e)) (hi : P.info? e = some i) (hz : i.zero = some zv) (z : Nat) (hsize : i.size = z) (hzs : zv.cells.size = z) (hby : i.bytes ≤ 128)
    {ao : Option Addr} {n cap : Nat} {xs : List Value} (hown : OwnZ K w e z ao n cap xs) (x : Value) (news : List Value) (hs : Src P z tx x 1 news w)
    (hK : ∀ k, K k → k < w.heap.size) (hn : n ≤ 1000000000) :
    ∃ ao' cap' w', (Builtin.append_ #[t, tx] ty #[.slice ao n cap, x]).run P w = .ok (.slice ao' (n + 1) cap') w' ∧ OwnZ K w' e z ao' (n + 1) cap' (xs ++ news) ∧ Kept K w w' := by
  subst hsize
  have h63 : n + 1 ≤ maxLen := by unfold maxLen; omega
  have hbytes : (n + 1) * i.bytes ≤ 140737488355328 := by
    have : (n + 1) * i.bytes ≤ (1000000000 + 1) * 128 := Nat.mul_le_mul (by omega) hby
    omega
  have hnl : news.length = i.size := by simpa using hs.newsLen
  obtain ⟨h1, h2, h3, h4⟩ := hown
  have grow : cap < n + 1 → (Builtin.firstCells i.size n (.slice ao n cap)).run P w.drew = .ok xs.toArray w.drew →
      ∃ ao' cap' w', (Builtin.append_ #[t, tx] ty #[.slice ao n cap, x]).run P w = .ok (.slice ao' (n + 1) cap') w' ∧ OwnZ K w' e i.size ao' (n + 1) cap' (xs ++ news) ∧ Kept K w w' := by
    intro hg hold
    have hr := run_append_grow_src (P := P) w t tx ty e i zv ht hi hz ao n cap xs hold x 1 news hs hg (by omega) (growslice_fits hg hbytes)
    have hge := grownCap_ge w (n + 1) cap e
    have hlen : (xs ++ news).length = (n + 1) * i.size := by rw [List.length_append, h1, hnl, Nat.succ_mul]
    refine ⟨_, _, _, hr, ⟨hlen, hge, grownCap_le_maxLen w (n + 1) cap e h63, .inr ⟨w.heap.size, _, rfl, fun hk => Nat.lt_irrefl _ (hK _ hk), heap_alloc_new w.drew _, ?_, ?_⟩⟩, (Kept.refl K w).drew.alloc (by simpa using hK) _⟩
    · rw [Array.size_append, List.size_toArray, hlen, size_zeroCells, hzs, ← Nat.add_mul]
      congr 1
      omega
    · rw [Array.toList_append]
      rw [← hlen]
      exact List.take_left
  rcases h4 with ⟨rfl, rfl⟩ | ⟨g, cur, rfl, r2, r3, r4, r5⟩
  · have hn0 : n = 0 := by omega
    subst hn0
    have hx : xs = [] := List.eq_nil_of_length_eq_zero (by omega)
    subst hx
    exact grow (by omega) (run_firstCells_none w.drew i.size 0 0 0)
  · have hcells : ∀ j u, xs[j]? = some u → w.cell? ((⟨g, 0, none⟩ : Addr).add j) = some u := by
      intro j u hj
      have hjl : j < xs.length := by
        rcases Nat.lt_or_ge j xs.length with hl | hg
        · exact hl
        · rw [List.getElem?_eq_none hg] at hj; cases hj
      have : (⟨g, 0, none⟩ : Addr).add j = ⟨g, j, none⟩ := by rw [Addr.add_lit, Nat.zero_add]
      rw [this, cell_block r3, ← hj, ← r5, List.getElem?_take, if_pos (by omega), Array.getElem?_toList]
    by_cases hroom : n + 1 ≤ cap
    · have hfit : n * i.size + i.size ≤ cur.size := by
        rw [r4, ← Nat.succ_mul]
        exact Nat.mul_le_mul_right _ hroom
      have hr := run_append_room_src (P := P) w t tx ty e i ht hi g 0 n cap x 1 news hs hroom
        (fun j hj => by rw [cell_block r3]; rw [Array.getElem?_eq_getElem (by omega)]; rfl)
        (fun j hj => frozen_block r3 _)
      rw [Nat.zero_add] at hr
      obtain ⟨c', q1, q2⟩ := heap_setCells_at (b := g) (e := e) (f := (0, 0)) news (n * i.size) w cur r3 (by omega)
      have hlen : (xs ++ news).length = (n + 1) * i.size := by rw [List.length_append, h1, hnl, Nat.succ_mul]
      refine ⟨_, _, _, hr, ⟨hlen, hroom, h3, .inr ⟨g, c', rfl, r2, q1, ?_, ?_⟩⟩, ⟨?_, ?_, ?_, ?_, ?_⟩⟩
      · have := congrArg List.length q2
        rw [List.length_append, List.length_append, List.length_drop, List.length_take] at this
        simp only [Array.length_toList] at this
        omega
      · rw [q2, r5, ← hlen]
        exact List.take_left
      · exact World.os_setCells w g _ news
      · have key : ∀ (vs : List Value) (o : Nat) (v : World), (v.setCells g o vs).tape = v.tape := by
          intro vs
          induction vs with
          | nil => intro o v; rfl
          | cons a r ih => intro o v; rw [World.setCells, ih]; rfl
        exact key news _ w
      · exact World.output_setCells w g _ news
      · have key : ∀ (vs : List Value) (o : Nat) (v : World), (v.setCells g o vs).heap.size = v.heap.size := by
          intro vs
          induction vs with
          | nil => intro o v; rfl
          | cons a r ih => intro o v; rw [World.setCells, ih]; simp
        rw [key]; exact Nat.le_refl _
      · intro k hk
        exact World.heap_setCells_other w g _ news (hK k hk) (fun e => r2 (e ▸ hk))
    · exact grow (by omega) (run_firstCells_some w.drew i.size n ⟨g, 0, none⟩ n cap xs h1 hcells)

/-- An append whose run is known, at a plain region's list. -/
theorem wpList_appR {w w' : World} {ops : Array Oper} {rest : List Oper} {o : Oper} {a : Act} {Q : Exit → Act → World → Prop} (hgd : o.guard = none) (s x : Operand) (t tx : TypeId)
    (ho : o.op = .call { callee := .builtin .append, args := #[s, x], argTypes := #[t, tx] }) (vs vx v : Value) (hs : a.eval s = vs) (hx : a.eval x = vx)
    (hr : (Builtin.append_ #[t, tx] o.type #[vs, vx]).run P w = .ok v w') (h : wpList P ops Q rest (a.put o.dst v) w') : wpList P ops Q (o :: rest) a w := by
  refine wpList_plain hgd fun _ hK' => ?_
  unfold Oper.wp execOp
  simp only [ho, resolve, invoke, builtin, Sem.run_bind, Sem.run_pure, Result.andThen_ok, List.map_toArray, List.map_cons, List.map_nil, hs, hx, hr]
  exact hK' _ _ h
/-- What 'append(s, x)' lays for its one element of some cells. -/
theorem src_newZ {tx e e' : TypeId} (X : World) (N : Nat) (vs : List Value) (cur : Array Value) (hk : P.underlying tx = some (.slice e')) (h1 : ∀ u ∈ vs, u.oneCell' = true) (hN : N = X.heap.size) (hc : cur.toList = vs) :
    Src P vs.length tx (.slice (some ⟨N, 0, none⟩) 1 1) 1 vs (X.alloc (.cells cur e)) := by
  subst hN
  refine Src.ofSlice _ hk _ _ _ vs (by simp) (fun j u hj => ?_) h1
  rw [Addr.add_lit, Nat.zero_add, cell_block (heap_alloc_new X _), ← Array.getElem?_toList, hc, hj]
end
end Go.Proofs.Ytffllhohlfblnaa
