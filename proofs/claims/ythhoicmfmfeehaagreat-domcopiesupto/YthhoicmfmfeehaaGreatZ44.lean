/-
  What is told of a node, laid into a variable; how often a node stands in rows; ways upwards (pure).
-/
import Derived.Test.YthhoicmfmfeehaaGreatZ43
namespace Go.Proofs.YthhoicmfmfeehaaGreat
open Go.RowKit
set_option linter.unusedVariables false
/-- A node that was told, in a box of its own. -/
structure Box (w V : World) (N : Nat) (x : Nd) (up : Int) (Q : List Nat) (ko : Option Addr) (kc : Nat) : Prop where
  kept : Kept (fun k => k < w.heap.size) w V
  lo : w.heap.size ≤ N
  hi : N < V.heap.size
  c0 : V.cell? ⟨N, 0, none⟩ = some (.int .u8 (x.kind : Int))
  c1 : V.cell? ⟨N, 1, none⟩ = some (sv x.name)
  c4 : V.cell? ⟨N, 4, none⟩ = some (.int .i64 up)
  c5 : V.cell? ⟨N, 5, none⟩ = some (.slice ko Q.length kc)
  c6 : V.cell? ⟨N, 6, none⟩ = some (.int .i64 x.shadow)
  c7 : V.cell? ⟨N, 7, none⟩ = some (.int .i64 x.host)
  c8 : V.cell? ⟨N, 8, none⟩ = some (.int .i64 x.content)
  kid : ∀ j (h : j < Q.length), ∃ g, ko = some ⟨g, 0, none⟩ ∧ g < V.heap.size ∧ V.cell? ⟨g, j, none⟩ = some (.int .i64 (Q[j] : Int))
theorem Box.of {w w' : World} {x : Nd} {up : Int} {Q : List Nat} {ao ko : Option Addr} {ac kc : Nat} (hQ : OwnZ (fun k => k < w.heap.size) w' 3 1 ko Q.length kc (ivs Q)) (hK : Kept (fun k => k < w.heap.size) w w') (V : World) (N : Nat) (hN : w'.heap.size = N)
    (hV : w'.alloc (.cells (outC x.kind ⟨x.name.toArray⟩ ⟨x.data.toArray⟩ ao x.attrs.length ac up ko Q.length kc x.shadow x.host x.content x.fl) 45) = V) : Box w V N x up Q ko kc := by
  have kV : Kept (fun k => k < w'.heap.size) w' V := by rw [← hV]; exact (Kept.refl _ w').alloc (fun _ h => h) _
  have kwV : Kept (fun k => k < w.heap.size) w V := hK.trans (kV.mono fun k h => Nat.lt_of_lt_of_le h hK.size)
  have hb : V.heap[N]? = some (.cells (outC x.kind ⟨x.name.toArray⟩ ⟨x.data.toArray⟩ ao x.attrs.length ac up ko Q.length kc x.shadow x.host x.content x.fl) 45 (0, 0)) := by rw [← hV, ← hN]; exact heap_alloc_new w' _
  refine ⟨kwV, by rw [← hN]; exact hK.size, lt_block hb, by rw [cell_block hb]; rfl, by rw [cell_block hb]; rfl, by rw [cell_block hb]; rfl, by rw [cell_block hb]; rfl, by rw [cell_block hb]; rfl, by rw [cell_block hb]; rfl, by rw [cell_block hb]; rfl, fun j hj => ?_⟩
  obtain ⟨g, e, hc⟩ := hQ.cell (j := j) (u := iv Q[j]) (by simp [ivs, hj])
  have ho := OwnZ.out hQ (g := g) e
  exact ⟨g, e, Nat.lt_of_lt_of_le ho.2 kV.size, (kV.cell (p := ⟨g, j, none⟩) ho.2).trans hc⟩
theorem Box.later {w V V' : World} {N : Nat} {x : Nd} {up : Int} {Q : List Nat} {ko : Option Addr} {kc : Nat} (h : Box w V N x up Q ko kc) (hk : Kept (fun k => k < V.heap.size) V V') : Box w V' N x up Q ko kc := by
  have c : ∀ f, V'.cell? ⟨N, f, none⟩ = V.cell? ⟨N, f, none⟩ := fun f => hk.cell (p := ⟨N, f, none⟩) h.hi
  refine ⟨h.kept.trans (hk.mono fun k hh => Nat.lt_of_lt_of_le hh h.kept.size), h.lo, Nat.lt_of_lt_of_le h.hi hk.size, by rw [c]; exact h.c0, by rw [c]; exact h.c1, by rw [c]; exact h.c4, by rw [c]; exact h.c5, by rw [c]; exact h.c6, by rw [c]; exact h.c7, by rw [c]; exact h.c8, fun j hj => ?_⟩
  obtain ⟨g, e, hg, hc⟩ := h.kid j hj
  exact ⟨g, e, Nat.lt_of_lt_of_le hg hk.size, (hk.cell (p := ⟨g, j, none⟩) hg).trans hc⟩
/-- Node of a document that only is read. -/
theorem Grown.node {K E : Nat → Prop} {w : World} {p r : Nat} {M : Dm} {R G : Nat → List Nat} {rk : Nat → Nat} {lim : Nat} (h : Grown K E w p r M R G rk lim) (hl : lim ≤ 100000) {i : Nat} (hi : i < M.n) {X : World} (hk : Kept (fun k => k < w.heap.size) w X) :
    Calls Tryz.prog 18 #[.pointer (some ⟨p, 0, none⟩), .int .i64 (i : Int)] X fun e w' => Told X (M.nd i) (M.pl i).up (R i) e w' :=
  node_any _ p i M R X (h.two.d.kept hk) h.inv.good.wf hi (by have := h.le; rw [h.lim] at this; omega) h.inv.good.few
theorem Grown.len {K E : Nat → Prop} {w : World} {p r : Nat} {M : Dm} {R G : Nat → List Nat} {rk : Nat → Nat} {lim : Nat} (h : Grown K E w p r M R G rk lim) {X : World} (hk : Kept (fun k => k < w.heap.size) w X) :
    Calls Tryz.prog 17 #[.pointer (some ⟨p, 0, none⟩)] X fun e w' => e = .returned (.int .i64 (M.n : Int)) ∧ w' = X := by
  obtain ⟨ga, cap, hY⟩ := h.two.d.kept hk
  exact len_any p M.n cap ga X hY.c1
/-- How often i stands in the first k rows. -/
def cntR (R : Nat → List Nat) (i : Nat) : Nat → Nat
  | 0 => 0
  | k + 1 => cntR R i k + (R k).count i
theorem cntR_le {n : Nat} {L : Nat → Lk} {R : Nat → List Nat} (h : WF n L R) {i : Nat} (hi : i < n) : ∀ k, k ≤ n → cntR R i k = if ∃ u : Nat, u < k ∧ (L i).up = (u : Int) then 1 else 0
  | 0, _ => by rw [if_neg (fun ⟨u, hu, _⟩ => absurd hu (Nat.not_lt_zero _))]; rfl
  | k + 1, hk => by
    have ih := cntR_le h hi k (by omega)
    show cntR R i k + (R k).count i = _
    by_cases c : (L i).up = (k : Int)
    · have hm : i ∈ R k := by
        rcases h.inn i hi with e | ⟨u, hu, e, hm⟩
        · omega
        · have : u = k := by omega
          exact this ▸ hm
      rw [ih, if_neg (fun ⟨u, hu, e⟩ => by omega), (h.nodup k (by omega)).count, if_pos hm, if_pos ⟨k, by omega, c⟩]
    · have hm : i ∉ R k := fun hm => c (h.up (by omega) hm)
      rw [ih, List.count_eq_zero_of_not_mem hm, Nat.add_zero]
      by_cases d : ∃ u : Nat, u < k ∧ (L i).up = (u : Int)
      · rw [if_pos d, if_pos (by obtain ⟨u, hu, e⟩ := d; exact ⟨u, by omega, e⟩)]
      · rw [if_neg d, if_neg (fun ⟨u, hu, e⟩ => by
          by_cases c2 : u = k
          · exact c (by rw [e, c2])
          · exact d ⟨u, by omega, e⟩)]
theorem nodup_le : ∀ (n : Nat) (l : List Nat), l.Nodup → (∀ i ∈ l, i < n) → l.length ≤ n := by
  intro n
  induction n with
  | zero =>
    intro l _ hl
    cases l with
    | nil => exact Nat.le_refl _
    | cons x r => exact absurd (hl x (List.mem_cons_self ..)) (Nat.not_lt_zero _)
  | succ n ih =>
    intro l hn hl
    have h1 := ih (l.erase n) (hn.erase n) (fun i hi => by
      have a := hl i (List.mem_of_mem_erase hi)
      have b : i ≠ n := fun e => by
        subst e
        exact (List.Nodup.not_mem_erase hn) hi
      omega)
    have h2 : l.length ≤ (l.erase n).length + 1 := by
      by_cases hm : n ∈ l
      · rw [List.length_erase_of_mem hm]; omega
      · rw [List.erase_of_not_mem hm]; omega
    omega
/-- Those that were met on a way upwards. -/
structure Way (n : Nat) (rk : Nat → Nat) (steps : Nat) (z : Int) (l : List Nat) : Prop where
  len : l.length = steps
  nd : l.Nodup
  lt : ∀ x ∈ l, x < n
  at0 : z = -1 ∨ ∃ m : Nat, m < n ∧ z = (m : Int) ∧ ∀ x ∈ l, rk m < rk x
theorem Way.le {n : Nat} {rk : Nat → Nat} {steps : Nat} {m : Nat} {l : List Nat} (h : Way n rk steps (m : Int) l) : m < n ∧ steps + 1 ≤ n := by
  rcases h.at0 with e | ⟨m', hm, e, hr⟩
  · omega
  · have : m' = m := by omega
    subst this
    refine ⟨hm, ?_⟩
    have := nodup_le n (m' :: l) (List.nodup_cons.2 ⟨fun hm' => Nat.lt_irrefl _ (hr _ hm'), h.nd⟩) (fun x hx => by
      rcases List.mem_cons.1 hx with rfl | hx
      · exact hm
      · exact h.lt x hx)
    rw [List.length_cons, h.len] at this
    exact this
theorem Way.up {M : Dm} {rk : Nat → Nat} (ha : Acy M rk) {steps m : Nat} {l : List Nat} (h : Way M.n rk steps (m : Int) l) : Way M.n rk (steps + 1) (parI M m) (m :: l) := by
  have hm := h.le.1
  rcases h.at0 with e | ⟨m', hm', e, hr⟩
  · omega
  · have : m' = m := by omega
    subst this
    refine ⟨by rw [List.length_cons, h.len], List.nodup_cons.2 ⟨fun hm' => Nat.lt_irrefl _ (hr _ hm'), h.nd⟩, fun x hx => ?_, ?_⟩
    · rcases List.mem_cons.1 hx with rfl | hx
      · exact hm
      · exact h.lt x hx
    · rcases ha m' hm with e | ⟨u, hu, e, hr'⟩
      · exact .inl e
      · refine .inr ⟨u, hu, e, fun x hx => ?_⟩
        rcases List.mem_cons.1 hx with rfl | hx
        · exact hr'
        · exact Nat.lt_trans hr' (hr x hx)
theorem Way.start (n : Nat) (rk : Nat → Nat) {i : Nat} (hi : i < n) : Way n rk 0 (i : Int) [] := ⟨rfl, List.nodup_nil, fun x hx => (by cases hx), .inr ⟨i, hi, rfl, fun x hx => (by cases hx)⟩⟩
end Go.Proofs.YthhoicmfmfeehaaGreat
