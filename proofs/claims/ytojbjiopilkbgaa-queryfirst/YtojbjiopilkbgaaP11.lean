/-
 A node is put into a row, in memory (chain.put), for the chain of gifts.; The document's own element, may, Sound.; Nodes and all that follow them, in order (pure).
-/
import Derived.Test.YtojbjiopilkbgaaP05
import Derived.Test.YtojbjiopilkbgaaP06
import Derived.Test.YtojbjiopilkbgaaP07
import Derived.Test.YtojbjiopilkbgaaP04
import Derived.Deep.Cut
import Derived.Deep.RegionWith
import Derived.Deep.RegionHeld3
import Derived.Deep.RegionLaw
import Derived.Lib.QuietBelow
import Derived.Deep.QuietTactic
import Derived.BigQuiet
import Derived.Deep.LoopGhost
import Derived.Deep.DeepCutAuto
import Derived.Deep.CutBlock
import Derived.RowKit
namespace Go.Proofs.Ytojbjiopilkbgaa
set_option linter.unusedVariables false
set_option maxRecDepth 100000
set_option maxHeartbeats 8000000
section
open Go.RowKit

end
section
open Go.RowKit Go.Sort
theorem AtsAt.take {K : Nat -> Prop} {w : World} {aa : Option Addr} {l : List Atr} (h : AtsAt K w aa l) (k : Nat) : AtsAt K w aa (l.take k) := fun j hj => by
 have hj' : j < l.length := by rw [List.length_take] at hj; omega
 obtain ⟨g, o, h1, h2, h3, h4⟩ := h j hj'
 rw [List.getElem_take]
 exact ⟨g, o, h1, h2, h3, h4⟩
end
section
def trF (F : Nat -> List Nat) : Nat -> Nat -> List Nat
 | 0, i => [i]
 | f + 1, i => i :: (F i).flatMap (trF F f)
def Falls (n : Nat) (F : Nat -> List Nat) (rk : Nat -> Nat) : Prop := ∀ i, i < n -> ∀ k ∈ F i, k < n /\ rk i < rk k
def dn (n : Nat) (rk : Nat -> Nat) (i : Nat) : Nat := (List.range n).countP (fun k => decide (rk i < rk k))
theorem dn_le (n : Nat) (rk : Nat -> Nat) (i : Nat) : dn n rk i <= n := by
 unfold dn
 exact Nat.le_trans List.countP_le_length (by simp)
theorem countP_lt {α : Type} {p q : α -> Bool} : ∀ {l : List α}, (∀ x ∈ l, p x = true -> q x = true) -> (∃ x ∈ l, q x = true /\ p x = false) -> l.countP p < l.countP q
 | [], _, ⟨x, hx, _⟩ => by cases hx
 | y :: r, hs, ⟨x, hx, hq, hp⟩ => by
  have hle : r.countP p <= r.countP q := List.countP_mono_left fun z hz => hs z (List.mem_cons_of_mem _ hz)
  rw [List.countP_cons, List.countP_cons]
  rcases List.mem_cons.1 hx with rfl | hx
  ·rw [hq, hp]; simp; omega
  ·have ih := countP_lt (l := r) (fun z hz => hs z (List.mem_cons_of_mem _ hz)) ⟨x, hx, hq, hp⟩
   have := hs y (List.mem_cons_self ..)
   cases h1 : p y with
   | false => cases h2 : q y <;> simp <;> omega
   | true => rw [this h1]; simp; omega
theorem dn_lt {n : Nat} {rk : Nat -> Nat} {i k : Nat} (hk : k < n) (h : rk i < rk k) : dn n rk k < dn n rk i := by
 refine countP_lt (fun x _ hx => ?_) ⟨k, List.mem_range.2 hk, decide_eq_true h, decide_eq_false (Nat.lt_irrefl _)⟩
 exact decide_eq_true (Nat.lt_trans h (of_decide_eq_true hx))
theorem flatMap_congr' {α β : Type} {f g : α -> List β} : ∀ {l : List α}, (∀ x ∈ l, f x = g x) -> l.flatMap f = l.flatMap g
 | [], _ => rfl
 | x :: r, h => by
  rw [List.flatMap_cons, List.flatMap_cons, h x (List.mem_cons_self ..), flatMap_congr' fun y hy => h y (List.mem_cons_of_mem _ hy)]
theorem trF_stable {n : Nat} {F : Nat -> List Nat} {rk : Nat -> Nat} (h : Falls n F rk) : ∀ (f g i : Nat), i < n -> dn n rk i <= f -> dn n rk i <= g -> trF F f i = trF F g i
 | 0, 0, i, _, _, _ => rfl
 | 0, g + 1, i, hi, h0, _ => by
  have : F i = [] := by
   cases hF : F i with
   | nil => rfl
   | cons k r =>
    have ⟨h1, h2⟩ := h i hi k (by rw [hF]; exact List.mem_cons_self ..)
    have := dn_lt h1 h2
    omega
  simp [trF, this]
 | f + 1, 0, i, hi, _, h0 => by
  have : F i = [] := by
   cases hF : F i with
   | nil => rfl
   | cons k r =>
    have ⟨h1, h2⟩ := h i hi k (by rw [hF]; exact List.mem_cons_self ..)
    have := dn_lt h1 h2
    omega
  simp [trF, this]
 | f + 1, g + 1, i, hi, hf, hg => by
  show i :: (F i).flatMap (trF F f) = i :: (F i).flatMap (trF F g)
  congr 1
  refine flatMap_congr' fun k hk => ?_
  have ⟨h1, h2⟩ := h i hi k hk
  have := dn_lt h1 h2
  exact trF_stable h f g k h1 (by omega) (by omega)
def tr (n : Nat) (F : Nat -> List Nat) (i : Nat) : List Nat := trF F n i
theorem tr_eq {n : Nat} {F : Nat -> List Nat} {rk : Nat -> Nat} (h : Falls n F rk) {i : Nat} (hi : i < n) : tr n F i = i :: (F i).flatMap (tr n F) := by
 have e : trF F n i = trF F (n + 1) i := trF_stable h n (n + 1) i hi (dn_le ..) (Nat.le_trans (dn_le ..) (Nat.le_succ _))
 exact e
theorem tr_lt {n : Nat} {F : Nat -> List Nat} {rk : Nat -> Nat} (h : Falls n F rk) : ∀ (f i : Nat), i < n -> ∀ k ∈ trF F f i, k < n
 | 0, i, hi, k, hk => by
  rcases List.mem_singleton.1 hk with rfl
  exact hi
 | f + 1, i, hi, k, hk => by
  rcases List.mem_cons.1 hk with rfl | hk
  ·exact hi
  ·obtain ⟨m, hm, hk⟩ := List.mem_flatMap.1 hk
   exact tr_lt h f m (h i hi m hm).1 k hk
end
end Go.Proofs.Ytojbjiopilkbgaa
