/-
  order.Before: WHAT IT TELLS.
-/
import Derived.Test.YtbhfnbplbkncmaaGreatVOTUlsKe
namespace Go.Proofs.YtbhfnbplbkncmaaGreat
open Go.RowKit Go.Shelf
set_option linter.unusedVariables false
attribute [local go_sem] Oper.semAt_some
/-- What Root tells of any number. -/
def RootI (M : Dm) (z r : Int) : Prop := ((z < 0 ∨ (M.n : Int) ≤ z) ∧ r = -1) ∨ ∃ k t : Nat, k < M.n ∧ z = (k : Int) ∧ TopOf M k t ∧ t < M.n ∧ r = (t : Int)
theorem RootI.ex {M : Dm} {R : Nat → List Nat} {rk : Nat → Nat} (h : Good M R rk) (z : Int) : ∃ r, RootI M z r := by
  by_cases c : z < 0 ∨ (M.n : Int) ≤ z
  · exact ⟨-1, .inl ⟨c, rfl⟩⟩
  · obtain ⟨k, hk, rfl⟩ : ∃ k : Nat, k < M.n ∧ z = (k : Int) := ⟨z.toNat, by omega, by omega⟩
    obtain ⟨t, ht, hT, _⟩ := h.top _ k (Nat.lt_succ_self _) hk
    exact ⟨t, .inr ⟨k, t, hk, rfl, hT, ht, rfl⟩⟩
theorem RootI.one {M : Dm} {z r r' : Int} (h : RootI M z r) (h' : RootI M z r') : r = r' := by
  rcases h with ⟨h1, rfl⟩ | ⟨k, t, h1, rfl, h2, h3, rfl⟩ <;> rcases h' with ⟨g1, rfl⟩ | ⟨k', t', g1, g0, g2, g3, rfl⟩
  · rfl
  · omega
  · omega
  · have : k = k' := by omega
    subst this
    rw [h2.one g2]
theorem RootI.lt {M : Dm} {z r : Int} (h : RootI M z r) : r = -1 ∨ ∃ t : Nat, t < M.n ∧ r = (t : Int) := by
  rcases h with ⟨_, e⟩ | ⟨k, t, _, _, _, ht, e⟩
  · exact .inl e
  · exact .inr ⟨t, ht, e⟩
theorem RootI.calls {K : Nat → Prop} {p : Nat} {M : Dm} {R : Nat → List Nat} {rk : Nat → Nat} {w : World} {z r : Int} (h : RootI M z r) (hd : DX K w p M) (hG : Good M R rk) (hn : M.n ≤ 100000) :
    Calls Tryz.prog 26 #[.pointer (some ⟨p, 0, none⟩), .int .i64 z] w fun e w' => e = .returned (.int .i64 r) ∧ Kept (fun k => k < w.heap.size) w w' := by
  rcases h with ⟨h1, rfl⟩ | ⟨k, t, h1, rfl, h2, h3, rfl⟩
  · exact oroot_none K p z M w hd h1 (by omega)
  · exact (oroot_any K p k M R rk w hd hG h1 (by omega)).mono fun e w' ⟨t', _, q2, q3, q4⟩ => by rw [q2.one h2] at q3; exact ⟨q3, q4⟩
/-- Which of two comes first. -/
def firstL (a b : Int) : List Nat → Bool
  | [] => false
  | x :: r => if (x : Int) = a ∨ (x : Int) = b then decide ((x : Int) = a) else firstL a b r
theorem firstL_no {a b : Int} : ∀ {l : List Nat}, (∀ y ∈ l, ¬ ((y : Int) = a ∨ (y : Int) = b)) → firstL a b l = false
  | [], _ => rfl
  | x :: r, h => by
    unfold firstL
    rw [if_neg (h x (List.mem_cons_self ..))]
    exact firstL_no fun y hy => h y (List.mem_cons_of_mem _ hy)
theorem firstL_at {a b : Int} {x : Nat} : ∀ {q : List Nat} (r : List Nat), (∀ y ∈ q, ¬ ((y : Int) = a ∨ (y : Int) = b)) → ((x : Int) = a ∨ (x : Int) = b) → firstL a b (q ++ x :: r) = decide ((x : Int) = a)
  | [], r, _, hx => by
    show firstL a b (x :: r) = _
    unfold firstL
    rw [if_pos hx]
  | y :: q, r, h, hx => by
    show firstL a b (y :: (q ++ x :: r)) = _
    unfold firstL
    rw [if_neg (h y (List.mem_cons_self ..))]
    exact firstL_at r (fun z hz => h z (List.mem_cons_of_mem _ hz)) hx
def befB (M : Dm) (R : Nat → List Nat) (a b ra rb : Int) : Bool := !(a == b) && (ra == rb && firstL a b (trI M.n R ra))
/-- The loop's own cell. -/
theorem mineC (n₀ B : Nat) (h : n₀ ≤ B) : Mine n₀ (fun W => B < W.heap.size) (fun _ k => k = B) := ⟨fun W k hs hm => by subst hm; exact ⟨h, hs⟩, fun W W' hs hk => ⟨Nat.lt_of_lt_of_le hs hk.size, fun k hm => hm⟩⟩
theorem kpC_b {n₀ B : Nat} {w : World} (hn : n₀ ≤ w.heap.size) (hB : B < w.heap.size) (W : World) (l : Nat) (o o' : Obj) (hl : w.heap.size ≤ l) (h : W.heap[l]? = some o) (hc : o.isCells = false) (hw : o.isWalk = false) : KpS n₀ (fun W => B < W.heap.size) (fun _ k => k = B) W (W.putObj l o') := by
  have hsz : (W.putObj l o').heap.size = W.heap.size := by simp [World.putObj]
  refine ⟨⟨belowK_b hn W l o o' hl h hc hw, fun k q hk ho hm => ⟨?_, hm⟩⟩, fun hs => by show B < _; rw [hsz]; exact hs⟩
  rw [World.putObj_heap_other (fun e => by rw [e, h] at hk; injection hk with hk; rw [hk, ho] at hc; cases hc)]
  exact hk
/-- What lies in the three cells between two rounds. -/
structure Bef (w : World) (N : Nat) (a b : Int) (W : World) : Prop where
  c0 : W.cell? ⟨N, 0, none⟩ = some (.int .i64 a)
  c1 : W.cell? ⟨N + 1, 0, none⟩ = some (.int .i64 b)
  c2 : ∃ v, W.cell? ⟨N + 1 + 1, 0, none⟩ = some (.bool v)
  f2 : W.frozen? ⟨N + 1 + 1, 0, none⟩ = false
  bel : Below N w W
end Go.Proofs.YtbhfnbplbkncmaaGreat
