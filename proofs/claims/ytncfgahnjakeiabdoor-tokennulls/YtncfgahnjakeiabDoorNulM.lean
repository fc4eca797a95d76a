/-
  A row of bytes that came in; a row of integers that grows; the walk of the statement on bytes 0.
-/
import Derived.Test.YtncfgahnjakeiabDoorNulls
import Derived.Test.YtncfgahnjakeiabDoorKnown
import Derived.Test.YtncfgahnjakeiabDoorLet
import Derived.Test.YtncfgahnjakeiabDoorLaid
import Derived.BigQuiet
import Derived.OpenShut
namespace Go.Proofs.YtncfgahnjakeiabDoor
open Go.RowKit

/-- A row of bytes. -/
def RowB (K : Nat → Prop) (w : World) (ao : Option Addr) (bs : List UInt8) : Prop :=
  bs = [] ∨ ∃ g o, ao = some ⟨g, o, none⟩ ∧ K g ∧ ∀ j (hj : j < bs.length), w.cell? ⟨g, o + j, none⟩ = some (.int .u8 (bs[j].toNat : Int))
theorem row_of {w : World} {a : Option Addr} {len cap : Nat} {zs : List Int}
    (h : (a = none ∧ len = 0 ∧ cap = 0 ∧ zs = []) ∨ ∃ x, a = some x ∧ len ≤ cap ∧ cap ≤ maxLen ∧ zs.length = cap ∧ (∀ i, i < zs.length → w.cell? (x.add i) = some (.int .u8 (zs.getD i 0))) ∧ ∀ n ∈ zs, (Lit.int .u8 n).wf = true) :
    ∃ bs : List UInt8, bs.length = len ∧ len ≤ cap ∧ cap ≤ maxLen ∧ RowB (fun k => k < w.heap.size) w a bs := by
  rcases h with ⟨rfl, rfl, rfl, rfl⟩ | ⟨⟨g, o, sp⟩, rfl, h1, h2, h3, h4, h5⟩
  · exact ⟨[], rfl, Nat.le_refl _, Nat.zero_le _, .inl rfl⟩
  · by_cases h0 : len = 0
    · subst h0
      exact ⟨[], rfl, h1, h2, .inl rfl⟩
    · refine ⟨(zs.take len).map fun n => UInt8.ofNat n.toNat, by simp; omega, h1, h2, .inr ⟨g, o, ?_, ?_, fun j hj => ?_⟩⟩
      · have hc := h4 0 (by omega)
        have : sp = none := by simpa [Addr.add] using World.cell?_spot hc
        rw [this]
      · exact World.block_lt_of_cell? w _ (h4 0 (by omega))
      · have hc := h4 0 (by omega)
        have hsp : sp = none := by simpa [Addr.add] using World.cell?_spot hc
        subst hsp
        simp at hj
        have hj' : j < zs.length := by omega
        have hc' := h4 j hj'
        rw [Addr.add_lit] at hc'
        rw [hc']
        have hw := h5 zs[j] (List.getElem_mem hj')
        have hb := bounds_u8 hw
        simp [hj']
        omega

theorem infoI : (Tryd.prog.info? 3).map (fun i => (i.zero, i.size, i.bytes)) = some (some (.int .i64 0), 1, 8) := by kernel_rfl
/-- An integer is appended to a row of one's own. -/
theorem appI {K : Nat → Prop} {w : World} {ao : Option Addr} {n cap : Nat} {xs : List Value} (h : OwnZ K w 3 1 ao n cap xs) (hKl : ∀ k, K k → k < w.heap.size) (hn : n ≤ 1000000000) (x : Int) :
    ∃ ao' cap' w', (Builtin.append_ #[40, 40] 40 #[.slice ao n cap, .slice (some ⟨w.heap.size, 0, none⟩) 1 1]).run Tryd.prog (w.alloc (.cells #[.int .i64 x] 3)) = .ok (.slice ao' (n + 1) cap') w' ∧ OwnZ K w' 3 1 ao' (n + 1) cap' (xs ++ [.int .i64 x]) ∧ Kept K w w' := by
  obtain ⟨i, hi, hip⟩ := Option.map_eq_some_iff.1 infoI
  have hz : i.zero = some (.int .i64 0) := congrArg (·.1) hip
  have hsz : i.size = 1 := congrArg (·.2.1) hip
  have hby : i.bytes = 8 := congrArg (·.2.2) hip
  obtain ⟨W, hW⟩ : ∃ W, w.alloc (.cells #[.int .i64 x] 3) = W := ⟨_, rfl⟩
  rw [hW]
  have hsrc : Src Tryd.prog 1 40 (.slice (some ⟨w.heap.size, 0, none⟩) 1 1) 1 [.int .i64 x] W := by
    rw [← hW]
    exact src_newZ w w.heap.size [.int .i64 x] _ Tryd.underlying40 (by intro u hu; rw [List.mem_singleton.1 hu]; rfl) rfl rfl
  have keep : ∀ g, g < w.heap.size → W.heap[g]? = w.heap[g]? := fun g hg => by rw [← hW]; exact Below.heap_alloc _ _ _ hg
  have hsW : w.heap.size ≤ W.heap.size := by rw [← hW]; simp
  obtain ⟨ao', cap', w', hr, ho, hk⟩ := run_appZ (P := Tryd.prog) W 40 40 40 3 i _ Tryd.underlying40 hi hz 1 hsz rfl (by omega)
    (h.to (w' := W) (fun g hg => (h.out hg).1) (fun g hg => keep g (h.out hg).2)) _ _ hsrc (fun g hg => Nat.lt_of_lt_of_le (hKl g hg) hsW) hn
  refine ⟨ao', cap', w', hr, ho, Kept.trans ?_ hk⟩
  rw [← hW]
  exact (Kept.refl _ w).alloc hKl _
end Go.Proofs.YtncfgahnjakeiabDoor
