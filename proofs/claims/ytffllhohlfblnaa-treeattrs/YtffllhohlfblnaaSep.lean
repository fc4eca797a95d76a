/-
  Rows of memory beside one another (of no program): each is owned by itself; one of them grows, the others stay.
-/
import Derived.Test.YtffllhohlfblnaaMem
namespace Go.Proofs.Ytffllhohlfblnaa
open Go.RowKit

/-- A slice value, and what lies in it: n elements of z cells each. -/
structure Row where
  e : TypeId
  z : Nat
  a : Option Addr
  n : Nat
  cap : Nat
  xs : List Value
abbrev Row.val (r : Row) : Value := .slice r.a r.n r.cap
def Row.own (K : Nat → Prop) (w : World) (r : Row) : Prop := OwnZ K w r.e r.z r.a r.n r.cap r.xs
/-- Rows outside K, each in a block of its own. -/
def Sep (K : Nat → Prop) (w : World) (rs : List Row) : Prop :=
  (∀ (i : Nat) (r : Row), rs[i]? = some r → r.own K w) ∧ ∀ (i j : Nat) (r s : Row), i ≠ j → rs[i]? = some r → rs[j]? = some s → ∀ g, blkOf r.a g → ¬ blkOf s.a g

theorem Sep.out {K : Nat → Prop} {w : World} {rs : List Row} (h : Sep K w rs) {i : Nat} {r : Row} (hi : rs[i]? = some r) {g : Nat} (hg : blkOf r.a g) : ¬ K g ∧ g < w.heap.size := OwnZ.out (h.1 i r hi) hg
/-- Elsewhere, where all these blocks are as they were. -/
theorem Sep.to {K K' : Nat → Prop} {w w' : World} {rs : List Row} (h : Sep K w rs) (hk : ∀ g, ¬ K g → g < w.heap.size → ¬ K' g) (hb : ∀ g, ¬ K g → g < w.heap.size → w'.heap[g]? = w.heap[g]?) : Sep K' w' rs :=
  ⟨fun i r hi => OwnZ.to (h.1 i r hi) (fun g hg => hk g (h.out hi hg).1 (h.out hi hg).2) (fun g hg => hb g (h.out hi hg).1 (h.out hi hg).2), h.2⟩
theorem Sep.kept {K : Nat → Prop} {w w' : World} {rs : List Row} (h : Sep K w rs) (hk : Kept (fun k => k < w.heap.size) w w') : Sep K w' rs := h.to (fun _ h _ => h) (fun g _ hg => hk.block g hg)
theorem Sep.setCell {K : Nat → Prop} {w : World} {rs : List Row} (h : Sep K w rs) {p : Addr} (hp : K p.block) (v : Value) : Sep K (w.setCell p v) rs :=
  h.to (fun _ h _ => h) (fun _ hg _ => Below.heap_setCell _ _ _ _ (fun e => hg (e ▸ hp)))
theorem Sep.weaken {K K' : Nat → Prop} {w : World} {rs : List Row} (h : Sep K w rs) (hs : ∀ k, K' k → K k) : Sep K' w rs := h.to (fun g hg _ hh => hg (hs g hh)) (fun _ _ _ => rfl)
/-- More is kept: blocks that are none of these rows'. -/
theorem Sep.more {K K' : Nat → Prop} {w : World} {rs : List Row} (h : Sep K w rs) (hs : ∀ k, K' k → K k ∨ w.heap.size ≤ k) : Sep K' w rs := h.to (fun g hg hl hh => by rcases hs g hh with h | h; exact hg h; omega) (fun _ _ _ => rfl)
theorem Sep.nil (K : Nat → Prop) (w : World) : Sep K w [] := ⟨fun i r h => by simp at h, fun i j r s _ h => by simp at h⟩
/-- A row that is new, or nil. -/
theorem Sep.cons {K : Nat → Prop} {w : World} {rs : List Row} {r : Row} (h : Sep K w rs) (hr : r.own K w) (ha : ∀ (i : Nat) (s : Row), rs[i]? = some s → ∀ g, blkOf r.a g → ¬ blkOf s.a g) : Sep K w (r :: rs) := by
  refine ⟨fun i s hi => ?_, fun i j s t hij hi hj g hg hh => ?_⟩
  · cases i with
    | zero => simp at hi; subst hi; exact hr
    | succ i => exact h.1 i s (by simpa using hi)
  · cases i with
    | zero =>
      cases j with
      | zero => exact hij rfl
      | succ j =>
        simp at hi
        subst hi
        exact ha j t (by simpa using hj) g hg hh
    | succ i =>
      cases j with
      | zero =>
        simp at hj
        subst hj
        exact ha i s (by simpa using hi) g hh hg
      | succ j => exact h.2 i j s t (by omega) (by simpa using hi) (by simpa using hj) g hg hh
/-- A row gives way to another one, in a block of its own or of the elder. -/
theorem Sep.set {K : Nat → Prop} {w w' : World} {rs : List Row} (h : Sep K w rs) {i : Nat} {r r' : Row} (hi : rs[i]? = some r) (hr : r'.own K w') (hn : ∀ g, blkOf r'.a g → blkOf r.a g ∨ w.heap.size ≤ g) (hb : ∀ g, ¬ K g → g < w.heap.size → ¬ blkOf r.a g → w'.heap[g]? = w.heap[g]?) : Sep K w' (rs.set i r') := by
  have hil : i < rs.length := by
    rcases Nat.lt_or_ge i rs.length with hl | hg
    · exact hl
    · rw [List.getElem?_eq_none hg] at hi; cases hi
  have oth : ∀ j s, j ≠ i → (rs.set i r')[j]? = some s → rs[j]? = some s := fun j s hj hs => by rwa [List.getElem?_set_ne (by omega)] at hs
  have own : ∀ s, (rs.set i r')[i]? = some s → s = r' := fun s hs => by rw [List.getElem?_set_self hil] at hs; injection hs with hs; exact hs.symm
  refine ⟨fun j s hj => ?_, fun j k s t hjk hj hk g hg hh => ?_⟩
  · by_cases e : j = i
    · subst e; rw [own s hj]; exact hr
    · have hs := oth j s e hj
      exact OwnZ.to (h.1 j s hs) (fun g hg => (h.out hs hg).1) (fun g hg => hb g (h.out hs hg).1 (h.out hs hg).2 (h.2 j i s r e hs hi g hg))
  · by_cases e : j = i
    · subst e
      rw [own s hj] at hg
      have ht := oth k t (by omega) hk
      rcases hn g hg with h1 | h1
      · exact h.2 j k r t hjk hi ht g h1 hh
      · have := (h.out ht hh).2; omega
    · have hs := oth j s e hj
      by_cases e' : k = i
      · subst e'
        rw [own t hk] at hh
        rcases hn g hh with h1 | h1
        · exact h.2 j k s r hjk hs hi g hg h1
        · have := (h.out hs hg).2; omega
      · exact h.2 j k s t hjk hs (oth k t e' hk) g hg hh

theorem OwnZ.one {K : Nat → Prop} {w : World} {e : TypeId} {ao : Option Addr} {n cap : Nat} {xs : List Value} : OwnZ K w e 1 ao n cap xs ↔ Own K w e ao n cap xs := by
  unfold OwnZ Own
  simp only [Nat.mul_one]

section
variable {P : Program}
/-- One element is appended to one of the rows. -/
theorem Sep.app {K : Nat → Prop} {w : World} {rs : List Row} (h : Sep K w rs) {i : Nat} {r : Row} (hi : rs[i]? = some r) (hK : ∀ k, K k → k < w.heap.size)
    (t tx ty : TypeId) (inf : TypeInfo) (zv : Value) (ht : P.underlying t = some (.slice r.e)) (hinf : P.info? r.e = some inf) (hz : inf.zero = some zv) (hsize : inf.size = r.z) (hzs : zv.cells.size = r.z) (hby : inf.bytes ≤ 128)
    (x : Value) (news : List Value) (hs : Src P r.z tx x 1 news w) (hn : r.n ≤ 1000000000) :
    ∃ a' cap' w', (Builtin.append_ #[t, tx] ty #[r.val, x]).run P w = .ok (.slice a' (r.n + 1) cap') w' ∧ Sep K w' (rs.set i ⟨r.e, r.z, a', r.n + 1, cap', r.xs ++ news⟩) ∧ Kept (fun k => k < w.heap.size ∧ ¬ blkOf r.a k) w w' := by
  have ho := h.1 i r hi
  obtain ⟨a', cap', w', hr, ho', hk⟩ := run_appZ (P := P) (K := fun k => k < w.heap.size ∧ ¬ blkOf r.a k) w t tx ty r.e inf zv ht hinf hz r.z hsize hzs hby
    (OwnZ.to (w' := w) ho (fun g hg hh => hh.2 hg) (fun _ _ => rfl)) x news hs (fun k hk => hk.1) hn
  have hnew : ∀ g, blkOf a' g → blkOf r.a g ∨ w.heap.size ≤ g := fun g hg => by
    have := (OwnZ.out ho' hg).1
    by_cases hb : blkOf r.a g
    · exact .inl hb
    · exact .inr (Nat.le_of_not_lt fun hl => this ⟨hl, hb⟩)
  refine ⟨a', cap', w', hr, h.set hi ?_ hnew (fun g _ hl hb => hk.block g ⟨hl, hb⟩), hk⟩
  refine OwnZ.to (w' := w') ho' (fun g hg hh => ?_) (fun _ _ => rfl)
  rcases hnew g hg with h1 | h1
  · exact (h.out hi h1).1 hh
  · have := hK g hh; omega
/-- Some elements of one cell each are appended to one of the rows. -/
theorem Sep.apps {K : Nat → Prop} {w : World} {rs : List Row} (h : Sep K w rs) {i : Nat} {r : Row} (hi : rs[i]? = some r) (hK : ∀ k, K k → k < w.heap.size) (h1z : r.z = 1)
    (t tx ty : TypeId) (inf : TypeInfo) (zv : Value) (ht : P.underlying t = some (.slice r.e)) (hinf : P.info? r.e = some inf) (hz : inf.zero = some zv) (hsize : inf.size = 1) (hzs : zv.cells.size = 1)
    (x : Value) (m : Nat) (news : List Value) (hs : Src P 1 tx x m news w) (h63 : r.n + m ≤ maxLen) (hbytes : (r.n + m) * inf.bytes ≤ 140737488355328) :
    ∃ a' cap' w', (Builtin.append_ #[t, tx] ty #[r.val, x]).run P w = .ok (.slice a' (r.n + m) cap') w' ∧ Sep K w' (rs.set i ⟨r.e, r.z, a', r.n + m, cap', r.xs ++ news⟩) ∧ Kept (fun k => k < w.heap.size ∧ ¬ blkOf r.a k) w w' := by
  obtain ⟨e, z, a, n, cap, xs⟩ := r
  dsimp only at h1z ht hinf h63 hbytes ⊢
  subst h1z
  have ho : OwnZ K w e 1 a n cap xs := h.1 i _ hi
  obtain ⟨a', cap', w', hr, ho', hk, _⟩ := run_app (P := P) (K := fun k => k < w.heap.size ∧ ¬ blkOf a k) w t tx ty e inf zv ht hinf hz hsize hzs
    (OwnZ.one.1 (OwnZ.to (w' := w) ho (fun g hg hh => hh.2 hg) (fun _ _ => rfl))) x m news hs (fun k hk => hk.1) h63 hbytes
  have ho2 := OwnZ.one.2 ho'
  have hnew : ∀ g, blkOf a' g → blkOf a g ∨ w.heap.size ≤ g := fun g hg => by
    have := (OwnZ.out ho2 hg).1
    by_cases hb : blkOf a g
    · exact .inl hb
    · exact .inr (Nat.le_of_not_lt fun hl => this ⟨hl, hb⟩)
  refine ⟨a', cap', w', hr, h.set hi ?_ hnew (fun g _ hl hb => hk.block g ⟨hl, hb⟩), hk⟩
  refine OwnZ.to (w' := w') ho2 (fun g hg hh => ?_) (fun _ _ => rfl)
  rcases hnew g hg with h1 | h1
  · exact (h.out hi h1).1 hh
  · have := hK g hh; omega
end
/-- Where one row grew, all else that is kept stayed. -/
theorem Sep.keeps {K : Nat → Prop} {w w' : World} {rs : List Row} (h : Sep K w rs) {i : Nat} {r : Row} (hi : rs[i]? = some r) (hK : ∀ k, K k → k < w.heap.size) (hk : Kept (fun k => k < w.heap.size ∧ ¬ blkOf r.a k) w w') : Kept K w w' :=
  hk.mono fun k hk' => ⟨hK k hk', fun hb => (h.out hi hb).1 hk'⟩
/-- A row that is cut short. -/
theorem OwnZ.take {K : Nat → Prop} {w : World} {e : TypeId} {z : Nat} {ao : Option Addr} {n cap : Nat} {xs : List Value} (h : OwnZ K w e z ao n cap xs) (k : Nat) (hk : k ≤ n) : OwnZ K w e z ao k cap (xs.take (k * z)) := by
  obtain ⟨h1, h2, h3, h4⟩ := h
  have hm : k * z ≤ n * z := Nat.mul_le_mul_right z hk
  refine ⟨by rw [List.length_take]; omega, by omega, h3, ?_⟩
  rcases h4 with h4 | ⟨g, cur, r1, r2, r3, r4, r5⟩
  · exact .inl h4
  · exact .inr ⟨g, cur, r1, r2, r3, r4, by rw [← r5, List.take_take, Nat.min_eq_left hm]⟩
end Go.Proofs.Ytffllhohlfblnaa
