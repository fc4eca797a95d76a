/-
  A decoder in memory: block b holds its seven cells, its text's row lies outside K and b; and what the small methods settle, breakOff, dropMark do to it.
-/
import Derived.Test.YtnfallgpnoofiaaBehind
import Derived.Deep.RegionLaw
import Derived.Deep.RegionHeld3
namespace Go.Proofs.Ytnfallgpnoofiaa
open Go.RowKit

def decCells (ao : Option Addr) (cap : Nat) (s : St) : Array Value :=
  #[.slice ao s.text.length cap, .int .i64 s.settled, .int .i64 s.count, bv s.low, bv s.high, .bool s.begun, .bool s.returned]

/-- Block b is a decoder in the state s; K are blocks that it does not touch. -/
structure Dec (K : Nat → Prop) (w : World) (b : Nat) (s : St) : Prop where
  nb : ¬ K b
  lt : ∀ k, K k → k < w.heap.size
  ok : s.settled ≤ s.text.length
  blk : ∃ ao cap, w.heap[b]? = some (.cells (decCells ao cap s) 39 (0, 0)) ∧ Own (fun k => K k ∨ k = b) w 5 ao s.text.length cap (bvs s.text)

abbrev dptr (b : Nat) : Value := .pointer (some ⟨b, 0, none⟩)

theorem Try.info5 : (Try.prog.info? 5).map (fun i => (i.zero, i.size, i.bytes)) = some (some (.int .u8 0), 1, 1) := by kernel_rfl

theorem Dec.alloc {K : Nat → Prop} {w : World} {b : Nat} {s : St} (h : Dec K w b s) (o : Obj) : Dec K (w.alloc o) b s := by
  obtain ⟨ao, cap, h1, h2⟩ := h.blk
  exact ⟨h.nb, fun k hk => by have := h.lt k hk; simp; omega, h.ok, ao, cap, heap_alloc_past h1 o, h2.alloc o⟩

set_option maxHeartbeats 400000 in
theorem settle_any (b n cap : Nat) (ao : Option Addr) (u1 u5 : Value) (w : World) (h0 : w.cell? ⟨b, 0, none⟩ = some (.slice ao n cap)) (h1 : w.cell? ⟨b, 1, none⟩ = some u1) (h5 : w.cell? ⟨b, 5, none⟩ = some u5)
   (f : ∀ i, w.frozen? ⟨b, i, none⟩ = false) :
    Calls Try.prog 20 #[.pointer (some ⟨b, 0, none⟩)] w fun e w' => e = .returned (.tuple #[]) ∧ w' = (w.setCell ⟨b, 1, none⟩ (.int .i64 n)).setCell ⟨b, 5, none⟩ (.bool true) := by
  go_enter Try.func20, Try.ntmps20
  go_wp2
  go_end0
  exact ⟨rfl, rfl⟩

theorem settle_dec {K : Nat → Prop} {w : World} {b : Nat} {s : St} (h : Dec K w b s) :
    Calls Try.prog 20 #[dptr b] w fun e w' => e = .returned (.tuple #[]) ∧ Dec K w' b s.settle ∧ Kept K w w' := by
  obtain ⟨ao, cap, h1, h2⟩ := h.blk
  refine (settle_any b s.text.length cap ao _ _ w (cell_block h1 0) (cell_block h1 1) (cell_block h1 5) (frozen_block h1)).mono ?_
  rintro e w' ⟨rfl, rfl⟩
  refine ⟨rfl, ⟨h.nb, fun k hk => by simpa using h.lt k hk, Nat.le_refl _, ao, cap, ?_, (h2.setCell (.inr rfl) _).setCell (.inr rfl) _⟩, ((Kept.refl K w).setCell h.nb _).setCell h.nb _⟩
  rw [heap_setCell_at (heap_setCell_at h1 1 _) 5 _]
  rfl

end Go.Proofs.Ytnfallgpnoofiaa
