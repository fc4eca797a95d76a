/-
  A node's cells, and a box of its own (plain seat).
-/
import Derived.Test.YtikaheenjhdpmaaQ2
namespace Go.Proofs.Ytikaheenjhdpmaa
open Go.RowKit
set_option linter.unusedVariables false
theorem alloc_bx (X : World) (cs : Array Value) (t : TypeId) : ∃ V N, X.alloc (.cells cs t) = V ∧ X.heap.size = N ∧ V.heap[N]? = some (.cells cs t (0, 0)) ∧ Kept (fun k => k < X.heap.size) X V ∧ V.heap.size = X.heap.size + 1 :=
  ⟨_, _, rfl, rfl, heap_alloc_new X _, (Kept.refl _ X).alloc (fun _ h => h) _, by simp⟩
abbrev nW (x : Nd) (ao : Option Addr) (ac : Nat) (up : Int) (ko : Option Addr) (kn kc : Nat) : Array Value := outC x.kind ⟨x.name.toArray⟩ ⟨x.data.toArray⟩ ao x.attrs.length ac up ko kn kc x.shadow x.host x.content x.fl
theorem lis (l : List UInt8) : (⟨l.toArray⟩ : ByteArray).toList = l := by rw [ByteArray.toList_eq]
theorem sizeN (cs : Array Value) (h : cs.size = 14) : (Try.prog.info? 35).map (·.size) = some cs.size := by rw [h]; kernel_rfl
end Go.Proofs.Ytikaheenjhdpmaa
