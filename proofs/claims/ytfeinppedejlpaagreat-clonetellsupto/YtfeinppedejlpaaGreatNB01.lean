/-
 Small laws on memory, of no program: a set K of blocks that a call leaves alone (Kept), a row of one-cell elements that a slice value owns outside K (Own), and what append and a conversion do to it.; Small laws on memory, of no program: a slice that owns elements of any size (Zac), append onto it, 
-/
import Derived.WalkKit
import Derived.WalkSpells
import Derived.WalkLawsBesides
import Derived.Deep.Upon
import Derived.Laws.IdiomStrings
namespace Go.Proofs.YtfeinppedejlpaaGreat
set_option linter.unusedVariables false
set_option maxRecDepth 100000
set_option maxHeartbeats 8000000
section
open Go.RowKit
structure Kept (K : Nat -> Prop) (w w' : World) : Prop where
 os : w'.os = w.os
 tape : w'.tape = w.tape
 output : w'.output = w.output
 size : w.heap.size <= w'.heap.size
 block : ∀ k, K k -> w'.heap[k]? = w.heap[k]?
theorem ltl {a b c : Nat} (h : a < b) (k : b <= c) : a < c := Nat.lt_of_lt_of_le h k
theorem Kept.refl (K : Nat -> Prop) (w : World) : Kept K w w := ⟨rfl, rfl, rfl, Nat.le_refl _, fun _ _ => rfl⟩
theorem Kept.trans {K : Nat -> Prop} {a b c : World} (h : Kept K a b) (k : Kept K b c) : Kept K a c :=
 ⟨k.os.trans h.os, k.tape.trans h.tape, k.output.trans h.output, Nat.le_trans h.size k.size, fun i hi => (k.block i hi).trans (h.block i hi)⟩
theorem Kept.mono {K K' : Nat -> Prop} {w w' : World} (h : Kept K w w') (hK : ∀ k, K' k -> K k) : Kept K' w w' :=
 ⟨h.os, h.tape, h.output, h.size, fun k hk => h.block k (hK k hk)⟩
theorem kt {X Y Z : World} (h : Kept (fun k => k < X.heap.size) X Y) (i : Kept (fun k => k < Y.heap.size) Y Z) : Kept (fun k => k < X.heap.size) X Z := h.trans (i.mono fun k j => ltl j h.size)
theorem Kept.drew {K : Nat -> Prop} {a w : World} (h : Kept K a w) : Kept K a w.drew := ⟨h.os, h.tape, h.output, h.size, h.block⟩
theorem Kept.drewN {K : Nat -> Prop} {a w : World} (h : Kept K a w) (n : Nat) : Kept K a (w.drewN n) := ⟨h.os, h.tape, h.output, h.size, h.block⟩
theorem Kept.alloc {K : Nat -> Prop} {a w : World} (h : Kept K a w) (hK : ∀ k, K k -> k < w.heap.size) (o : Obj) : Kept K a (w.alloc o) :=
 h.trans ⟨rfl, rfl, rfl, by simp, fun k hk => Below.heap_alloc _ _ _ (hK k hk)⟩
theorem Kept.setCell {K : Nat -> Prop} {a w : World} (h : Kept K a w) {p : Addr} (hp : ¬ K p.block) (u : Value) : Kept K a (w.setCell p u) :=
 h.trans ⟨rfl, rfl, rfl, by simp, fun k hk => Below.heap_setCell _ _ _ _ (fun e => hp (e ▸ hk))⟩
theorem Kept.cell {K : Nat -> Prop} {w w' : World} (h : Kept K w w') {p : Addr} (hp : K p.block) : w'.cell? p = w.cell? p := World.cell?_of_block (w := w) (h.block p.block hp)
theorem Kept.frozen {K : Nat -> Prop} {w w' : World} (h : Kept K w w') {p : Addr} (hp : K p.block) : w'.frozen? p = w.frozen? p := World.frozen?_of_block (w := w) (h.block p.block hp)
theorem Kept.below {B : Nat} {w w' : World} (h : Kept (fun k => k < B) w w') : Below B w w' := ⟨h.os, h.tape, h.output, h.size, h.block⟩
theorem Below.kept {B : Nat} {w w' : World} (h : Below B w w') : Kept (fun k => k < B) w w' := ⟨h.os, h.tape, h.output, h.size, h.block⟩
theorem zaa {w : World} {b : Nat} {cur : Array Value} {e : TypeId} {f : Nat × Nat} (h : w.heap[b]? = some (.cells cur e f)) (i : Nat) : w.cell? ⟨b, i, none⟩ = cur[i]? := by
 simp [World.cell?, h]
theorem zao {w : World} {b : Nat} {cur : Array Value} {e : TypeId} (h : w.heap[b]? = some (.cells cur e (0, 0))) (i : Nat) : w.frozen? ⟨b, i, none⟩ = false := by
 simp [World.frozen?, h]
theorem zad {w : World} {b : Nat} {o : Obj} (h : w.heap[b]? = some o) : b < w.heap.size := by
 rcases Nat.lt_or_ge b w.heap.size with hlt | hge
 ·exact hlt
 ·rw [Array.getElem?_eq_none hge] at h; cases h
theorem zai {w : World} {b : Nat} {cur : Array Value} {e : TypeId} {f : Nat × Nat} (h : w.heap[b]? = some (.cells cur e f)) (i : Nat) (v : Value) :
  (w.setCell ⟨b, i, none⟩ v).heap[b]? = some (.cells (cur.setIfInBounds i v) e f) := by
 simp [World.setCell, Array.getElem?_modify, h]
theorem zc1 {w : World} {b : Nat} {o : Obj} (h : w.heap[b]? = some o) (p : Obj) : (w.alloc p).heap[b]? = some o := by
 rw [Below.heap_alloc _ _ _ (zad h), h]
theorem za9 {b : Nat} {e : TypeId} {f : Nat × Nat} : ∀ (vs : List Value) (o : Nat) (w : World) (cur : Array Value), w.heap[b]? = some (.cells cur e f) -> o + vs.length <= cur.size ->
  ∃ c', (w.setCells b o vs).heap[b]? = some (.cells c' e f) /\ c'.toList = cur.toList.take o ++ vs ++ cur.toList.drop (o + vs.length)
 | [], o, w, cur, h, _ => ⟨cur, h, by simp⟩
 | v :: r, o, w, cur, h, hl => by
  simp only [List.length_cons] at hl
  obtain ⟨c', h1, h2⟩ := za9 (b := b) (e := e) (f := f) r (o + 1) (w.setCell ⟨b, o, none⟩ v) _ (zai h o v) (by simp; omega)
  refine ⟨c', h1, ?_⟩
  rw [h2]
  have ho : o < cur.toList.length := by simp; omega
  simp only [Array.toList_setIfInBounds, List.length_cons]
  rw [List.take_succ_eq_append_getElem (by simpa using ho), List.take_set_of_le (Nat.le_refl o), List.drop_set_of_lt (by omega)]
  simp [Nat.add_assoc, Nat.add_comm 1]
end
section
open Go.RowKit
def zap (ao : Option Addr) (k : Nat) : Prop := ao = some ⟨k, 0, none⟩
def Zac (K : Nat -> Prop) (w : World) (e : TypeId) (z : Nat) (ao : Option Addr) (n cap : Nat) (xs : List Value) : Prop :=
 xs.length = n * z /\ n <= cap /\ cap <= maxLen /\ ((ao = none /\ cap = 0) \/
  ∃ g cur, ao = some ⟨g, 0, none⟩ /\ ¬ K g /\ w.heap[g]? = some (.cells cur e (0, 0)) /\ cur.size = cap * z /\ cur.toList.take (n * z) = xs)
theorem Zac.nil (K : Nat -> Prop) (w : World) (e : TypeId) (z : Nat) : Zac K w e z none 0 0 [] := ⟨by simp, Nat.le_refl _, Nat.zero_le _, .inl ⟨rfl, rfl⟩⟩
theorem Zac.out {K : Nat -> Prop} {w : World} {e : TypeId} {z : Nat} {ao : Option Addr} {n cap : Nat} {xs : List Value} (h : Zac K w e z ao n cap xs) {g : Nat} (hg : zap ao g) : ¬ K g /\ g < w.heap.size := by
 obtain ⟨_, _, _, h4⟩ := h
 rcases h4 with ⟨r, _⟩ | ⟨g', cur, r1, r2, r3, _⟩
 ·rw [r] at hg; cases hg
 ·rw [r1] at hg
  injection hg with hg
  injection hg with hg
  subst hg
  exact ⟨r2, zad r3⟩
theorem Zac.to {K K' : Nat -> Prop} {w w' : World} {e : TypeId} {z : Nat} {ao : Option Addr} {n cap : Nat} {xs : List Value} (h : Zac K w e z ao n cap xs) (hk : ∀ g, zap ao g -> ¬ K' g) (hb : ∀ g, zap ao g -> w'.heap[g]? = w.heap[g]?) :
  Zac K' w' e z ao n cap xs := by
 obtain ⟨h1, h2, h3, h4⟩ := h
 refine ⟨h1, h2, h3, ?_⟩
 rcases h4 with h4 | ⟨g, cur, r1, r2, r3, r4⟩
 ·exact .inl h4
 ·exact .inr ⟨g, cur, r1, hk g r1, by rw [hb g r1]; exact r3, r4⟩
theorem Zac.cell {K : Nat -> Prop} {w : World} {e : TypeId} {z : Nat} {ao : Option Addr} {n cap : Nat} {xs : List Value} (h : Zac K w e z ao n cap xs) {j : Nat} {u : Value} (hj : xs[j]? = some u) : ∃ g, ao = some ⟨g, 0, none⟩ /\ w.cell? ⟨g, j, none⟩ = some u := by
 obtain ⟨h1, h2, h3, h4⟩ := h
 have hjl : j < xs.length := by
  rcases Nat.lt_or_ge j xs.length with hl | hg
  ·exact hl
  ·rw [List.getElem?_eq_none hg] at hj; cases hj
 rcases h4 with ⟨r1, r2⟩ | ⟨g, cur, r1, r2, r3, r4, r5⟩
 ·have : n = 0 := by omega
  subst this
  omega
 ·refine ⟨g, r1, ?_⟩
  rw [zaa r3, <- hj, <- r5, List.getElem?_take, if_pos (by omega), Array.getElem?_toList]
section
variable {P : Program}
theorem zjx {K : Nat -> Prop} (w : World) (t tx ty e : TypeId) (i : TypeInfo) (zv : Value) (ht : P.underlying t = some (.slice e)) (hi : P.info? e = some i) (hz : i.zero = some zv) (z : Nat) (hsize : i.size = z) (hzs : zv.cells.size = z) (hby : i.bytes <= 128)
  {ao : Option Addr} {n cap : Nat} {xs : List Value} (hown : Zac K w e z ao n cap xs) (x : Value) (news : List Value) (hs : Src P z tx x 1 news w)
  (hK : ∀ k, K k -> k < w.heap.size) (hn : n <= 1000000000) :
  ∃ ao' cap' w', (Builtin.append_ #[t, tx] ty #[.slice ao n cap, x]).run P w = .ok (.slice ao' (n + 1) cap') w' /\ Zac K w' e z ao' (n + 1) cap' (xs ++ news) /\ Kept K w w' := by
 subst hsize
 have h63 : n + 1 <= maxLen := by unfold maxLen; omega
 have hbytes : (n + 1) * i.bytes <= 140737488355328 := by
  have : (n + 1) * i.bytes <= (1000000000 + 1) * 128 := Nat.mul_le_mul (by omega) hby
  omega
 have hnl : news.length = i.size := by simpa using hs.newsLen
 obtain ⟨h1, h2, h3, h4⟩ := hown
 have grow : cap < n + 1 -> (Builtin.firstCells i.size n (.slice ao n cap)).run P w.drew = .ok xs.toArray w.drew ->
   ∃ ao' cap' w', (Builtin.append_ #[t, tx] ty #[.slice ao n cap, x]).run P w = .ok (.slice ao' (n + 1) cap') w' /\ Zac K w' e i.size ao' (n + 1) cap' (xs ++ news) /\ Kept K w w' := by
  intro hg hold
  have hr := run_append_grow_src (P := P) w t tx ty e i zv ht hi hz ao n cap xs hold x 1 news hs hg (by omega) (growslice_fits hg hbytes)
  have hge := grownCap_ge w (n + 1) cap e
  have hlen : (xs ++ news).length = (n + 1) * i.size := by rw [List.length_append, h1, hnl, Nat.succ_mul]
  refine ⟨_, _, _, hr, ⟨hlen, hge, grownCap_le_maxLen w (n + 1) cap e h63, .inr ⟨w.heap.size, _, rfl, fun hk => Nat.lt_irrefl _ (hK _ hk), heap_alloc_new w.drew _, ?_, ?_⟩⟩, (Kept.refl K w).drew.alloc (by simpa using hK) _⟩
  ·rw [Array.size_append, List.size_toArray, hlen, size_zeroCells, hzs, <- Nat.add_mul]
   congr 1
   omega
  ·rw [Array.toList_append]
   rw [<- hlen]
   exact List.take_left
 rcases h4 with ⟨rfl, rfl⟩ | ⟨g, cur, rfl, r2, r3, r4, r5⟩
 ·have hn0 : n = 0 := by omega
  subst hn0
  have hx : xs = [] := List.eq_nil_of_length_eq_zero (by omega)
  subst hx
  exact grow (by omega) (run_firstCells_none w.drew i.size 0 0 0)
 ·have hcells : ∀ j u, xs[j]? = some u -> w.cell? ((⟨g, 0, none⟩ : Addr).add j) = some u := by
   intro j u hj
   have hjl : j < xs.length := by
    rcases Nat.lt_or_ge j xs.length with hl | hg
    ·exact hl
    ·rw [List.getElem?_eq_none hg] at hj; cases hj
   have : (⟨g, 0, none⟩ : Addr).add j = ⟨g, j, none⟩ := by rw [Addr.add_lit, Nat.zero_add]
   rw [this, zaa r3, <- hj, <- r5, List.getElem?_take, if_pos (by omega), Array.getElem?_toList]
  by_cases hroom : n + 1 <= cap
  ·have hfit : n * i.size + i.size <= cur.size := by
    rw [r4, <- Nat.succ_mul]
    exact Nat.mul_le_mul_right _ hroom
   have hr := run_append_room_src (P := P) w t tx ty e i ht hi g 0 n cap x 1 news hs hroom
    (fun j hj => by rw [zaa r3]; rw [Array.getElem?_eq_getElem (by omega)]; rfl)
    (fun j hj => zao r3 _)
   rw [Nat.zero_add] at hr
   obtain ⟨c', q1, q2⟩ := za9 (b := g) (e := e) (f := (0, 0)) news (n * i.size) w cur r3 (by omega)
   have hlen : (xs ++ news).length = (n + 1) * i.size := by rw [List.length_append, h1, hnl, Nat.succ_mul]
   refine ⟨_, _, _, hr, ⟨hlen, hroom, h3, .inr ⟨g, c', rfl, r2, q1, ?_, ?_⟩⟩, ⟨?_, ?_, ?_, ?_, ?_⟩⟩
   ·have := congrArg List.length q2
    rw [List.length_append, List.length_append, List.length_drop, List.length_take] at this
    simp only [Array.length_toList] at this
    omega
   ·rw [q2, r5, <- hlen]
    exact List.take_left
   ·exact World.os_setCells w g _ news
   ·have key : ∀ (vs : List Value) (o : Nat) (v : World), (v.setCells g o vs).tape = v.tape := by
     intro vs
     induction vs with
     | nil => intro o v; rfl
     | cons a r ih => intro o v; rw [World.setCells, ih]; rfl
    exact key news _ w
   ·exact World.output_setCells w g _ news
   ·have key : ∀ (vs : List Value) (o : Nat) (v : World), (v.setCells g o vs).heap.size = v.heap.size := by
     intro vs
     induction vs with
     | nil => intro o v; rfl
     | cons a r ih => intro o v; rw [World.setCells, ih]; simp
    rw [key]; exact Nat.le_refl _
   ·intro k hk
    exact World.heap_setCells_other w g _ news (hK k hk) (fun e => r2 (e ▸ hk))
  ·exact grow (by omega) (run_firstCells_some w.drew i.size n ⟨g, 0, none⟩ n cap xs h1 hcells)
theorem zak {w w' : World} {ops : Array Oper} {rest : List Oper} {o : Oper} {a : Act} {Q : Exit -> Act -> World -> Prop} (hgd : o.guard = none) (s x : Operand) (t tx : TypeId)
  (ho : o.op = .call { callee := .builtin .append, args := #[s, x], argTypes := #[t, tx] }) (vs vx v : Value) (hs : a.eval s = vs) (hx : a.eval x = vx)
  (hr : (Builtin.append_ #[t, tx] o.type #[vs, vx]).run P w = .ok v w') (h : wpList P ops Q rest (a.put o.dst v) w') : wpList P ops Q (o :: rest) a w := by
 refine wpList_plain hgd fun _ hK' => ?_
 unfold Oper.wp execOp
 simp only [ho, resolve, invoke, builtin, Sem.run_bind, Sem.run_pure, Result.andThen_ok, List.map_toArray, List.map_cons, List.map_nil, hs, hx, hr]
 exact hK' _ _ h
theorem zec {tx e e' : TypeId} (X : World) (N : Nat) (vs : List Value) (cur : Array Value) (hk : P.underlying tx = some (.slice e')) (h1 : ∀ u ∈ vs, u.oneCell' = true) (hN : N = X.heap.size) (hc : cur.toList = vs) :
  Src P vs.length tx (.slice (some ⟨N, 0, none⟩) 1 1) 1 vs (X.alloc (.cells cur e)) := by
 subst hN
 refine Src.ofSlice _ hk _ _ _ vs (by simp) (fun j u hj => ?_) h1
 rw [Addr.add_lit, Nat.zero_add, zaa (heap_alloc_new X _), <- Array.getElem?_toList, hc, hj]
end
end
end Go.Proofs.YtfeinppedejlpaaGreat
