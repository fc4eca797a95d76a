/-
  The listed tables: what the row says of them gives what the walks ask; the start that fits.
-/
import Derived.Test.YtncfgahnjakeiaaDoorRows
import Derived.Test.YtncfgahnjakeiaaDoorTake
import Derived.ProofKit
import Derived.LaidMore
import Derived.OpenShut
import Derived.Stop.Joined
import Derived.Deep.Strs
import Derived.Lib.LaidTab
import Derived.FnData
import Derived.MakeChecks
namespace Go.Proofs.YtncfgahnjakeiaaDoor
open Go.ChangeShapes Go.WideShapes Go.ChangeAt Go.RowKit

theorem own : ownKnob Tryd.prog.godebug = none := by kernel_rfl
/-- What both lists hold. -/
def laidL : List (String × DataW Unit) := Rows.tokenPartsRow.laid
theorem gRefs : Tryd.prog.globalNamed (laidL[0]'(by decide)).1 = some 0 := by kernel_rfl
theorem gCtrl : Tryd.prog.globalNamed (laidL[1]'(by decide)).1 = some 1 := by kernel_rfl
theorem tRefs : (Tryd.prog.globals[0]?).map (·.type) = some 95 := by kernel_rfl
theorem tCtrl : (Tryd.prog.globals[1]?).map (·.type) = some 102 := by kernel_rfl
theorem c55 : Tryd.prog.cellsOf 94 = 3 := by kernel_rfl
theorem c56 : Tryd.prog.cellsOf 95 = 66 := by kernel_rfl
theorem c63 : Tryd.prog.cellsOf 102 = 32 := by kernel_rfl
theorem c21 : Tryd.prog.cellsOf 21 = 1 := by kernel_rfl
theorem c9 : Tryd.prog.cellsOf 9 = 1 := by kernel_rfl
theorem c4 : Tryd.prog.cellsOf 4 = 1 := by kernel_rfl

set_option maxRecDepth 100000 in
theorem door_met (os : Os) (args : Array Value) : laidMetH Tryd.prog laidL ((World.doorLaid Tryd.prog 41 os).forCall (fun _ _ => 0) ⟨#[], args, []⟩).memory :=
  laidMetH_of_parts3 (fuel := 8) (laidMet_of_run' 8 (by kernel_rfl) (by kernel_rfl)) (by kernel_rfl) (by kernel_rfl)

theorem chunks {α : Type} : ∀ (n : Nat) (a b : List α), a.length = n * 3 → b.length = n * 3 → (∀ i, i < n → (a.drop (i * 3)).take 3 = (b.drop (i * 3)).take 3) → a = b
  | 0, a, b, ha, hb, _ => by rw [List.eq_nil_of_length_eq_zero (l := a) (by omega), List.eq_nil_of_length_eq_zero (l := b) (by omega)]
  | n + 1, a, b, ha, hb, h => by
    have h0 : a.take 3 = b.take 3 := by simpa using h 0 (by omega)
    have h1 : a.drop 3 = b.drop 3 := chunks n _ _ (by rw [List.length_drop]; omega) (by rw [List.length_drop]; omega) fun i hi => by
      have := h (i + 1) (by omega)
      rw [List.drop_drop, List.drop_drop]
      rw [show 3 + i * 3 = (i + 1) * 3 by omega]
      exact this
    rw [← List.take_append_drop 3 a, ← List.take_append_drop 3 b, h0, h1]
def rowD (r : Nm) : DataW Unit := .agg [.lit (.string r.name), .lit (.int .i32 (r.code : Int)), .lit (.bool r.bare)]
theorem refsD : (Rows.laid_portiere_charref_references : DataW Unit) = .agg (names.map rowD) := rfl
theorem ctrlD : (Rows.laid_portiere_charref_controls : DataW Unit) = Lib.tabData .i32 (ctrl.map fun z : Nat => (z : Int)) := rfl
theorem ba_ext {s : ByteArray} {l : List UInt8} (h : s.data.toList = l) : s = ⟨l.toArray⟩ := by
  apply ByteArray.ext
  rw [← h]

theorem chunk_of {W : World} {base : Nat} {sp : Nat → Bool} {held : Bool} {m : Nat} {cs : List Value} {r : Nm} {p : List MemPlace} (h : DataW.trod (fun _ => ()) Tryd.prog W base sp held m 94 cs = some (rowD r, p)) : cs = rowV r := by
  obtain ⟨y0, y1, y2, n, hx, hl, h0, h1, h2⟩ := Deep.trod_struct3 Tryd.underlying94 h
  rw [c55] at hl
  match cs, hl with
  | [a, b, c], _ =>
    simp only [c9] at h0
    simp only [c21] at h1
    simp only [c4] at h2
    obtain ⟨s, e0, q0, _⟩ := DataW.trod_string Tryd.underlying9 h0
    obtain ⟨z, e1, q1, _⟩ := DataW.trod_int Tryd.underlying21 h1
    obtain ⟨t, e2, q2⟩ := DataW.trod_bool Tryd.underlying4 h2
    subst q0 q1 q2
    simp [rowD] at hx
    simp at e0 e1 e2
    obtain ⟨⟨k0, k1, k2⟩, _⟩ := hx
    subst e0 e1 e2
    rw [← k1, ← k2, ba_ext k0.symm]
    rfl

theorem of_laid {W : World} (h : laidMetH Tryd.prog laidL W) : Tab W ∧ 1 < W.heap.size := by
  rw [MakeChecks.laidMetH_plain _ _ _ (by kernel_rfl)] at h
  obtain ⟨ps, ⟨g0, t0, cs0, f0, p0, q0, hg0, ht0, hv0, hd0, ⟨g1, t1, cs1, f1, p1, q1, hg1, ht1, hv1, hd1, _, _⟩, hps⟩, _, hpl⟩ := h
  obtain rfl := Option.some.inj (gRefs.symm.trans hg0)
  obtain rfl := Option.some.inj (gCtrl.symm.trans hg1)
  obtain rfl := Option.some.inj (tRefs.symm.trans ht0)
  obtain rfl := Option.some.inj (tCtrl.symm.trans ht1)
  rw [ctrlD] at hd1
  have hc1 := Lib.cells_of_tab Tryd.underlying102 Tryd.underlying21 c21 c63 hd1
  rw [refsD] at hd0
  obtain ⟨xs, m, _, hx, hlen, hn, hel⟩ := DataW.trod_array Tryd.underlying95 hd0
  rw [c56] at hlen
  have hxs : xs.map (·.1) = names.map rowD := by
    have := congrArg Prod.fst hx
    simp only [DataW.agg.injEq] at this
    exact this.symm
  have hc0 : cs0.toList = refCells := by
    refine chunks 22 _ _ hlen rfl fun i hi => ?_
    have h1 := hel i hi
    rw [c55] at h1
    have hi' : i < names.length := hi
    have hix : i < xs.length := by omega
    rw [List.getElem?_eq_getElem hix] at h1
    have h2 : xs[i].1 = rowD names[i] := by
      have := congrArg (·[i]?) hxs
      simp only [List.getElem?_map, List.getElem?_eq_getElem hix, List.getElem?_eq_getElem hi', Option.map_some, Option.some.injEq] at this
      exact this
    have h3 : DataW.trod (fun _ => ()) Tryd.prog W 0 (fun _ => true) false m 94 (List.take 3 (List.drop (i * 3) cs0.toList)) = some (rowD names[i], xs[i].2) := by
      rw [h1, ← h2]
    rw [chunk_of h3]
    exact (flat_at names i hi').symm
  have hb0 : ∃ c t, W.heap[0]? = some (.cells c t (0, 0)) := by
    refine (hpl 0 0 ?_).1
    rw [hps]
    have hz : cs0.size = 66 := by simpa using hlen
    refine List.mem_append_left _ (List.mem_append_left _ ?_)
    unfold MemPlace.row
    rw [hz]
    exact List.mem_map.2 ⟨0, by simp, rfl⟩
  obtain ⟨c, t, hc⟩ := hb0
  have hcc : c = cs0 := by
    have h1 := hv0
    simp only [World.var?, hg0, Option.bind_some, hc, Option.some.injEq] at h1
    exact h1
  refine ⟨⟨⟨fun i hi => ?_⟩, t, ?_⟩, ?_⟩
  · have := World.var?_cell hg1 hv1 i
    rw [this, ← Array.getElem?_toList, hc1, List.map_map, List.getElem?_map, List.getElem?_eq_getElem hi]
    rfl
  · rw [hc, hcc]
    congr 2
    rw [← hc0]
  · have := World.var?_cell hg1 hv1 0
    rw [← Array.getElem?_toList, hc1] at this
    rcases Nat.lt_or_ge 1 W.heap.size with hl | hg
    · exact hl
    · have hno : W.cell? ⟨1, 0, none⟩ = none := by simp [World.cell?, Array.getElem?_eq_none hg]
      rw [hno] at this
      cases this
end Go.Proofs.YtncfgahnjakeiaaDoor
