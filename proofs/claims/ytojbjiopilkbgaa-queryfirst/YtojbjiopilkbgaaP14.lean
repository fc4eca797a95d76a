/-
 The document's own document in memory (RX): nodes in one row of 14 cells each, what is given in a row of rows; attributes and kids in rows that are never written again.; The document's own small calls: ints, attrs, without, there, Len, within, find, element.; The document's own there, Len, within, f
-/
import Derived.Test.YtojbjiopilkbgaaP10
import Derived.Test.YtojbjiopilkbgaaP08
import Derived.Test.YtojbjiopilkbgaaP11
import Derived.Test.YtojbjiopilkbgaaP07
import Derived.Test.YtojbjiopilkbgaaP04
import Derived.Deep.QuietTactic
import Derived.BigQuiet
import Derived.Deep.LoopGhost
import Derived.Deep.DeepCutAuto
import Derived.Deep.CutBlock
namespace Go.Proofs.Ytojbjiopilkbgaa
set_option linter.unusedVariables false
set_option maxRecDepth 100000
set_option maxHeartbeats 8000000
section
open Go.RowKit
def IntsAt (F : Nat -> Prop) (w : World) (ka : Option Addr) (l : List Nat) : Prop :=
 ∀ j (h : j < l.length), ∃ g o, ka = some ⟨g, o, none⟩ /\ F g /\ w.cell? ⟨g, o + j, none⟩ = some (iv l[j])
theorem IntsAt.nil (F : Nat -> Prop) (w : World) (ka : Option Addr) : IntsAt F w ka [] := fun _ h => absurd h (Nat.not_lt_zero _)
theorem IntsAt.to {F F' : Nat -> Prop} {w w' : World} {ka : Option Addr} {l : List Nat} (h : IntsAt F w ka l) (hF : ∀ g, F g -> F' g) (hb : ∀ g, F g -> w'.heap[g]? = w.heap[g]?) : IntsAt F' w' ka l := fun j hj => by
 obtain ⟨g, o, h1, h2, h3⟩ := h j hj
 exact ⟨g, o, h1, hF g h2, by rw [World.cell?_of_block (w := w) (a := ⟨g, o + j, none⟩) (hb g h2)]; exact h3⟩
theorem AtsAt.to {F F' : Nat -> Prop} {w w' : World} {aa : Option Addr} {l : List Atr} (h : AtsAt F w aa l) (hF : ∀ g, F g -> F' g) (hb : ∀ g, F g -> w'.heap[g]? = w.heap[g]?) : AtsAt F' w' aa l := fun j hj => by
 obtain ⟨g, o, h1, h2, h3, h4⟩ := h j hj
 exact ⟨g, o, h1, hF g h2, by rw [World.cell?_of_block (w := w) (a := ⟨g, o + j * 2, none⟩) (hb g h2)]; exact h3, by rw [World.cell?_of_block (w := w) (a := ⟨g, o + j * 2 + 1, none⟩) (hb g h2)]; exact h4⟩
theorem OwnZ.intsAt {K F : Nat -> Prop} {w : World} {ao : Option Addr} {n cap : Nat} {l : List Nat} (h : OwnZ K w 3 1 ao n cap (ivs l)) (hF : ∀ g, blkOf ao g -> F g) : IntsAt F w ao l := fun j hj => by
 obtain ⟨g, e, hc⟩ := h.cell (j := j) (u := iv l[j]) (by rw [ivs, List.getElem?_map, List.getElem?_eq_getElem hj]; rfl)
 exact ⟨g, 0, e, hF g (by rw [e]; rfl), by rw [Nat.zero_add]; exact hc⟩
end
section
open Go.RowKit Go.Sort
theorem IntsAt.cells {F : Nat -> Prop} {w : World} {ka : Option Addr} {l : List Nat} (h : IntsAt F w ka l) (h0 : 0 < l.length) : ∃ g o, ka = some ⟨g, o, none⟩ /\ F g /\ ∀ j u, (ivs l)[j]? = some u -> w.cell? ⟨g, o + j, none⟩ = some u := by
 obtain ⟨g, o, e, hg, -⟩ := h 0 h0
 refine ⟨g, o, e, hg, fun j u hj => ?_⟩
 have hjl : j < l.length := by
  rcases Nat.lt_or_ge j l.length with hl | hg
  ·exact hl
  ·rw [List.getElem?_eq_none (by rw [ivs, List.length_map]; exact hg)] at hj; cases hj
 obtain ⟨g', o', e', -, c0⟩ := h j hjl
 rw [e] at e'
 injection e' with e'
 injection e' with e1 e2
 subst e1 e2
 rw [ivs, List.getElem?_map, List.getElem?_eq_getElem hjl] at hj
 injection hj with hj
 rw [<- hj]; exact c0
theorem ivs_one (l : List Nat) : ∀ u ∈ ivs l, u.oneCell' = true := by
 intro u hu
 obtain ⟨i, -, rfl⟩ := List.mem_map.1 hu
 rfl
end
section
open Go.RowKit Go.Sort
inductive FindA (l : List Atr) (nm : List UInt8) : Int -> Prop
 | yes {k : Nat} (hk : k < l.length) : l[k].name = nm -> (∀ x ∈ l.take k, x.name ≠ nm) -> FindA l nm (k : Int)
 | no : (∀ x ∈ l, x.name ≠ nm) -> FindA l nm (-1)
end
section
open Go.RowKit Go.Sort
theorem there_no {n : Nat} {i : Int} (h : i < 0 \/ (n : Int) <= i) : (decide (0 <= i) && decide (i < (n : Int))) = false := by
 rcases h with h | h
 ·rw [decide_eq_false (by omega)]; rfl
 ·rw [decide_eq_false (show ¬ i < (n : Int) by omega), Bool.and_false]
theorem there_yes {n k : Nat} (h : k < n) : (decide (0 <= (k : Int)) && decide ((k : Int) < (n : Int))) = true := by
 rw [decide_eq_true (by omega), decide_eq_true (by omega)]; rfl
end
section
open Go.RowKit Go.Sort
theorem setN_same (M : Dm) (i : Nat) (x : Nd) : (M.setN i x).nd i = x := if_pos rfl
theorem setN_ne (M : Dm) {i j : Nat} (x : Nd) (h : j ≠ i) : (M.setN i x).nd j = M.nd j := if_neg h
end
end Go.Proofs.Ytojbjiopilkbgaa
