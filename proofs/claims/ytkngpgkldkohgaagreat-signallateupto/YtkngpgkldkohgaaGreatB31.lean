/-
 order.kids, shadowAndKids; an append of a row of numbers.; order.visit: a node and all that follow it are handed out, in order, till one is enough.
-/
import Derived.Test.YtkngpgkldkohgaaGreatB28
import Derived.Test.YtkngpgkldkohgaaGreatB26
import Derived.Test.YtkngpgkldkohgaaGreatB13
import Derived.RangeFuncNested
import Derived.RangeFuncBound
import Derived.RangeFuncCalls
import Derived.RangeFuncLeaves
import Derived.Shelf.Abstract
import Derived.Shelf.RegionOpen
import Derived.WalkKit
import Derived.OwnWalkIn
import Derived.TacticsInMore
import Derived.LoopNIn
import Derived.LoopIn
namespace Go.Proofs.YtkngpgkldkohgaaGreat
set_option linter.unusedVariables false
set_option maxRecDepth 100000
set_option maxHeartbeats 8000000
section
open Go.RowKit Go.Sort
theorem ivs_append (a b : List Nat) : ivs (a ++ b) = ivs a ++ ivs b := List.map_append
theorem app_ints {K F : Nat -> Prop} {w : World} {ao aa : Option Addr} {n cap m ac : Nat} {xs l : List Nat} (hO : OwnZ K w 3 1 ao n cap (ivs xs)) (hl : l.length = m) (ha : IntsAt F w aa l) (hK : ∀ k, K k -> k < w.heap.size) (hn : n <= 100000000) (hm : m <= 100000000) :
  ∃ ao' c' w', (Builtin.append_ #[33, 33] 33 #[.slice ao n cap, .slice aa m ac]).run Tryz.prog w = .ok (.slice ao' (n + m) c') w' /\ OwnZ K w' 3 1 ao' (n + m) c' (ivs (xs ++ l)) /\ Kept K w w' := by
 obtain ⟨i, hi, hip⟩ := Option.map_eq_some_iff.1 infoInt
 have hz : i.zero = _ := congrArg (·.1) hip
 have hsz : i.size = 1 := congrArg (·.2.1) hip
 have hby : i.bytes = 8 := congrArg (·.2.2) hip
 by_cases h0 : m = 0
 ·subst h0
  have hl0 : l = [] := List.eq_nil_of_length_eq_zero hl
  subst hl0
  have hs : Src Tryz.prog i.size 33 (.slice aa 0 ac) 0 [] w := by
   cases aa with
   | none => exact Src.ofNil w Tryz.underlying33 _
   | some a => exact Src.ofSlice w Tryz.underlying33 a 0 ac [] (by simp) (fun j u hj => by simp at hj) (fun u hu => by cases hu)
  exact ⟨ao, cap, w, run_append_nothing w 33 33 33 3 i Tryz.underlying33 hi ao n cap hO.2.1 _ hs, by rw [List.append_nil]; exact hO, Kept.refl _ _⟩
 ·obtain ⟨g, o, rfl, hg, hc⟩ := ha.cells (by omega)
  have hl2 : (ivs l).length = m * 1 := by rw [ivs, List.length_map, hl, Nat.mul_one]
  have hs : Src Tryz.prog 1 33 (.slice (some ⟨g, o, none⟩) m ac) m (ivs l) w := by
   refine Src.ofSlice w Tryz.underlying33 _ m ac (ivs l) (by rw [hl2]) (fun j u hj => ?_) (ivs_one l)
   rw [Addr.add_lit]
   exact hc j u hj
  obtain ⟨ao', c', w', hr, ho, hk⟩ := run_appM (P := Tryz.prog) (K := K) w 33 33 33 3 i _ Tryz.underlying33 hi hz 1 hsz rfl (by omega) hO _ m (by omega) hm _ hs hK (by omega)
  exact ⟨ao', c', w', hr, by rw [ivs_append]; exact ho, hk⟩
end
section
open Go.RowKit Go.Shelf
attribute [local go_sem] Oper.semAt_some
structure Kp (n₀ : Nat) (Mn : World -> Nat -> Prop) (W W' : World) : Prop where
 below : Below n₀ W W'
 cells : ∀ k o, W.heap[k]? = some o -> o.isCells = true -> ¬ Mn W k -> W'.heap[k]? = some o /\ ¬ Mn W' k
theorem Kp.trans {n₀ : Nat} {Mn : World -> Nat -> Prop} {A B C : World} (h : Kp n₀ Mn A B) (k : Kp n₀ Mn B C) : Kp n₀ Mn A C :=
 ⟨h.below.trans k.below, fun j o hj ho hn => k.cells j o (h.cells j o hj ho hn).1 ho (h.cells j o hj ho hn).2⟩
theorem IntsAt.kp {n₀ : Nat} {Mn : World -> Nat -> Prop} {W W' : World} {fa : Option Addr} {l : List Nat} (h : IntsAt (fun g => ¬ Mn W g) W fa l) (hk : Kp n₀ Mn W W') : IntsAt (fun g => ¬ Mn W' g) W' fa l := fun j hj => by
 obtain ⟨g, o, h1, h2, h3⟩ := h j hj
 obtain ⟨ob, hb, hc⟩ := cells_of_cell h3
 obtain ⟨k1, k2⟩ := hk.cells g ob hb hc h2
 exact ⟨g, o, h1, k2, by rw [World.cell?_of_block (w := W) (a := ⟨g, o + j, none⟩) (k1.trans hb.symm)]; exact h3⟩
theorem IntsAt.inn {F : Nat -> Prop} {w : World} {ka : Option Addr} {l : List Nat} (h : IntsAt F w ka l) : IntsAt (fun g => F g /\ g < w.heap.size) w ka l := fun j hj => by
 obtain ⟨g, o, h1, h2, h3⟩ := h j hj
 obtain ⟨ob, hb, _⟩ := cells_of_cell h3
 exact ⟨g, o, h1, ⟨h2, (Array.getElem?_eq_some_iff.1 hb).1⟩, h3⟩
theorem fm_split (f : Nat -> List Nat) (l : List Nat) (j : Nat) (hj : j < l.length) : l.flatMap f = (l.take j).flatMap f ++ (f l[j] ++ (l.drop (j + 1)).flatMap f) := by
 have h : l = l.take j ++ (l[j] :: l.drop (j + 1)) := by rw [<- List.drop_eq_getElem_cons hj, List.take_append_drop]
 have h2 := congrArg (List.flatMap f) h
 rw [List.flatMap_append, List.flatMap_cons] at h2
 exact h2
theorem fm_succ (f : Nat -> List Nat) (l : List Nat) (j : Nat) (hj : j < l.length) : (l.take (j + 1)).flatMap f = (l.take j).flatMap f ++ f l[j] := by
 rw [List.take_succ_eq_append_getElem hj, List.flatMap_append, List.flatMap_singleton]
end
end Go.Proofs.YtkngpgkldkohgaaGreat
