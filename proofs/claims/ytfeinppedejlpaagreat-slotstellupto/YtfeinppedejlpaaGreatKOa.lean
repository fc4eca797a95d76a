/-
  Rows of numbers that a walk makes; a tree as a row.
-/
import Derived.Test.YtfeinppedejlpaaGreatKW32
import Derived.RangeFuncNested
import Derived.RangeFuncBound
import Derived.RangeFuncCalls
import Derived.RangeFuncLeaves
import Derived.Shelf.Abstract
import Derived.Shelf.RegionOpen
import Derived.WalkKit
import Derived.OwnWalkIn
import Derived.TacticsInMore
import Derived.LoopNIn
import Derived.LoopIn
import Derived.Laws.EntriesVeiled
namespace Go.Proofs.YtfeinppedejlpaaGreat
set_option linter.unusedVariables false
set_option maxRecDepth 100000
set_option maxHeartbeats 8000000
open Go.RowKit Go.Sort
theorem zar (X : World) (cs : Array Value) (t : TypeId) : ∃ V N, X.alloc (.cells cs t) = V /\ X.heap.size = N /\ V.heap[N]? = some (.cells cs t (0, 0)) /\ Kept (fun k => k < X.heap.size) X V /\ V.heap.size = X.heap.size + 1 :=
 ⟨_, _, rfl, rfl, heap_alloc_new X _, (Kept.refl _ X).alloc (fun _ h => h) _, by simp⟩
theorem zcy (a b : List Nat) : ivs (a ++ b) = ivs a ++ ivs b := List.map_append
theorem zcf {K F : Nat -> Prop} {w : World} {ao aa : Option Addr} {n cap m ac : Nat} {xs l : List Nat} (hO : Zac K w 3 1 ao n cap (ivs xs)) (hl : l.length = m) (ha : Zad F w aa l) (hK : ∀ k, K k -> k < w.heap.size) (hn : n <= 100000000) (hm : m <= 100000000) :
  ∃ ao' c' w', (Builtin.append_ #[33, 33] 33 #[.slice ao n cap, .slice aa m ac]).run Tryz.prog w = .ok (.slice ao' (n + m) c') w' /\ Zac K w' 3 1 ao' (n + m) c' (ivs (xs ++ l)) /\ Kept K w w' := by
 obtain ⟨i, hi, hip⟩ := Option.map_eq_some_iff.1 zgh
 have hz : i.zero = _ := congrArg (·.1) hip
 have hsz : i.size = 1 := congrArg (·.2.1) hip
 have hby : i.bytes = 8 := congrArg (·.2.2) hip
 by_cases h0 : m = 0
 ·subst h0
  have hl0 : l = [] := List.eq_nil_of_length_eq_zero hl
  subst hl0
  have hs : Src Tryz.prog i.size 33 (.slice aa 0 ac) 0 [] w := by
   cases aa with
   | none => exact Src.ofNil w Tryz.underlying33 _
   | some a => exact Src.ofSlice w Tryz.underlying33 a 0 ac [] (by simp) (fun j u hj => by simp at hj) (fun u hu => by cases hu)
  exact ⟨ao, cap, w, run_append_nothing w 33 33 33 3 i Tryz.underlying33 hi ao n cap hO.2.1 _ hs, by rw [List.append_nil]; exact hO, Kept.refl _ _⟩
 ·obtain ⟨g, o, rfl, hg, hc⟩ := ha.cells (by omega)
  have hl2 : (ivs l).length = m * 1 := by rw [ivs, List.length_map, hl, Nat.mul_one]
  have hs : Src Tryz.prog 1 33 (.slice (some ⟨g, o, none⟩) m ac) m (ivs l) w := by
   refine Src.ofSlice w Tryz.underlying33 _ m ac (ivs l) (by rw [hl2]) (fun j u hj => ?_) (zk8 l)
   rw [Addr.add_lit]
   exact hc j u hj
  obtain ⟨ao', c', w', hr, ho, hk⟩ := zdv (P := Tryz.prog) (K := K) w 33 33 33 3 i _ Tryz.underlying33 hi hz 1 hsz rfl (by omega) hO _ m (by omega) hm _ hs hK (by omega)
  exact ⟨ao', c', w', hr, by rw [zcy]; exact ho, hk⟩
theorem zf4 (f : Nat -> List Nat) (l : List Nat) (j : Nat) (hj : j < l.length) : l.flatMap f = (l.take j).flatMap f ++ (f l[j] ++ (l.drop (j + 1)).flatMap f) := by
 have h : l = l.take j ++ (l[j] :: l.drop (j + 1)) := by rw [<- List.drop_eq_getElem_cons hj, List.take_append_drop]
 have h2 := congrArg (List.flatMap f) h
 rw [List.flatMap_append, List.flatMap_cons] at h2
 exact h2
theorem zh5 (f : Nat -> List Nat) (l : List Nat) (j : Nat) (hj : j < l.length) : (l.take (j + 1)).flatMap f = (l.take j).flatMap f ++ f l[j] := by
 rw [List.take_succ_eq_append_getElem hj, List.flatMap_append, List.flatMap_singleton]
def trI (n : Nat) (F : Nat -> List Nat) (i : Int) : List Nat := if i < 0 \/ (n : Int) <= i then [] else tr n F i.toNat
theorem zdd {n : Nat} {F : Nat -> List Nat} {i : Nat} (h : i < n) : trI n F (i : Int) = tr n F i := by unfold trI; rw [if_neg (by omega), Int.toNat_natCast]
theorem zfn {n : Nat} {F : Nat -> List Nat} {i : Int} (h : i < 0 \/ (n : Int) <= i) : trI n F i = [] := if_pos h
def Lst (w : World) (l : List Nat) (e : Ending) (w' : World) : Prop := ∃ ao c, e = .returned (.slice ao l.length c) /\ Zac (fun k => k < w.heap.size) w' 3 1 ao l.length c (ivs l) /\ Kept (fun k => k < w.heap.size) w w'
end Go.Proofs.YtfeinppedejlpaaGreat
