/-
  The walk of the statement on tags: its own loops, and what they lay.
-/
import Derived.Test.YtncfgahnjakeiabDoorTagF
import Derived.Test.YtncfgahnjakeiabDoorTagQ
import Derived.Test.YtncfgahnjakeiabDoorTagC
import Derived.Test.YtncfgahnjakeiabDoorCmt
import Derived.Test.YtncfgahnjakeiabDoorNRef
import Derived.BigQuiet
import Derived.Lib.QuietBelow
namespace Go.Proofs.YtncfgahnjakeiabDoor
open Go.RowKit

theorem rvalue_any (s : ByteArray) (w : World) (hs : s.size < 1000000) :
    Calls Tryd.prog 12 #[.string s] w fun e w' => e = .returned (.string ⟨(esc true s.data.toList).toArray⟩) ∧ w' = w := by
  have h1 := rwritten_any s true w hs
  go_enter Tryd.func12, Tryd.ntmps12
  go_wp2_with fail
  refine h1.mono ?_
  rintro e w1 ⟨rfl, rfl⟩
  go_wp2
  go_ret
  exact ⟨rfl, rfl⟩

/-- An attribute is appended to a row of one's own. -/
theorem appAt {K : Nat → Prop} {w : World} {ao : Option Addr} {n cap : Nat} {xs : List Value} (h : OwnZ K w 28 2 ao n cap xs) (hKl : ∀ k, K k → k < w.heap.size) (hn : n ≤ 1000000000) (x y : ByteArray) :
    ∃ ao' cap' w', (Builtin.append_ #[22, 22] 22 #[.slice ao n cap, .slice (some ⟨w.heap.size, 0, none⟩) 1 1]).run Tryd.prog (w.alloc (.cells #[.string x, .string y] 28)) = .ok (.slice ao' (n + 1) cap') w' ∧ OwnZ K w' 28 2 ao' (n + 1) cap' (xs ++ [.string x, .string y]) ∧ Kept K w w' := by
  obtain ⟨i, hi, hip⟩ := Option.map_eq_some_iff.1 infoA
  have hz : i.zero = some (.agg #[.string ⟨#[]⟩, .string ⟨#[]⟩]) := congrArg (·.1) hip
  have hsz : i.size = 2 := congrArg (·.2.1) hip
  have hby : i.bytes = 32 := congrArg (·.2.2) hip
  obtain ⟨W, hW⟩ : ∃ W, w.alloc (.cells #[.string x, .string y] 28) = W := ⟨_, rfl⟩
  rw [hW]
  have hsrc : Src Tryd.prog 2 22 (.slice (some ⟨w.heap.size, 0, none⟩) 1 1) 1 [.string x, .string y] W := by
    rw [← hW]
    exact src_newZ w w.heap.size [.string x, .string y] _ Tryd.underlying22 (by intro u hu; simp at hu; rcases hu with rfl | rfl <;> rfl) rfl rfl
  have keep : ∀ g, g < w.heap.size → W.heap[g]? = w.heap[g]? := fun g hg => by rw [← hW]; exact Below.heap_alloc _ _ _ hg
  have hsW : w.heap.size ≤ W.heap.size := by rw [← hW]; simp
  obtain ⟨ao', cap', w', hr, ho, hk⟩ := run_appZ (P := Tryd.prog) W 22 22 22 28 i _ Tryd.underlying22 hi hz 2 hsz rfl (by omega)
    (h.to (w' := W) (fun g hg => (h.out hg).1) (fun g hg => keep g (h.out hg).2)) _ _ hsrc (fun g hg => Nat.lt_of_lt_of_le (hKl g hg) hsW) hn
  refine ⟨ao', cap', w', hr, ho, Kept.trans ?_ hk⟩
  rw [← hW]
  exact (Kept.refl _ w).alloc hKl _

/-- The first attributes that are written. -/
def lsOf (V : Nat → ByteArray) (k : Nat) : List (UInt8 × List UInt8) := (List.range k).map fun i => (UInt8.ofNat (97 + i), cleanL (V i).data.toList)
theorem lsOf_succ (V : Nat → ByteArray) (k : Nat) : lsOf V (k + 1) = lsOf V k ++ [(UInt8.ofNat (97 + k), cleanL (V k).data.toList)] := by
  unfold lsOf
  rw [List.range_succ, List.map_append]
  rfl
theorem lsOf_length (V : Nat → ByteArray) (k : Nat) : (lsOf V k).length = k := by simp [lsOf]
theorem aws_succ (V : Nat → ByteArray) (k : Nat) : aws (lsOf V (k + 1)) = aws (lsOf V k) ++ aw (UInt8.ofNat (97 + k)) (cleanL (V k).data.toList) := by
  rw [lsOf_succ]
  unfold aws
  rw [List.flatMap_append]
  simp
theorem ats_succ (V : Nat → ByteArray) (k : Nat) : ats (lsOf V (k + 1)) = ats (lsOf V k) ++ [⟨[107, UInt8.ofNat (97 + k)], cleanL (V k).data.toList⟩] := by
  rw [lsOf_succ]
  simp [ats]
theorem ats_length (V : Nat → ByteArray) (k : Nat) : (ats (lsOf V k)).length = k := by simp [ats, lsOf]
theorem clean_no (l : List UInt8) : ∀ d ∈ cleanL l, d ≠ 0 := by
  intro d hd
  unfold cleanL at hd
  obtain ⟨c, _, hc⟩ := List.mem_flatMap.1 hd
  unfold cleanB at hc
  split at hc
  · exact (show ∀ d ∈ ([239, 191, 189] : List UInt8), d ≠ 0 by decide) d hc
  · rename_i h0
    rw [List.mem_singleton.1 hc]
    exact h0
theorem lsOf_letters (V : Nat → ByteArray) {k : Nat} (hk : k ≤ 20) : ∀ b ∈ lsOf V k, 97 ≤ b.1.toNat ∧ b.1.toNat ≤ 122 := by
  intro b hb
  unfold lsOf at hb
  obtain ⟨i, hi, rfl⟩ := List.mem_map.1 hb
  have hi' := List.mem_range.1 hi
  have : (UInt8.ofNat (97 + i)).toNat = 97 + i := by rw [UInt8.toNat_ofNat']; omega
  dsimp only
  omega
theorem lsOf_clean (V : Nat → ByteArray) (k : Nat) : ∀ b ∈ lsOf V k, ∀ d ∈ b.2, d ≠ 0 := by
  intro b hb
  unfold lsOf at hb
  obtain ⟨i, hi, rfl⟩ := List.mem_map.1 hb
  exact clean_no _
theorem lsOf_nodup (V : Nat → ByteArray) {k : Nat} (hk : k ≤ 20) : ((lsOf V k).map (·.1)).Nodup := by
  unfold lsOf
  rw [List.map_map]
  refine List.pairwise_map.2 ((List.pairwise_lt_range (n := k)).imp_of_mem ?_)
  intro i j hi hj hlt e
  have hi' := List.mem_range.1 hi
  have hj' := List.mem_range.1 hj
  have e' := congrArg UInt8.toNat e
  have : ∀ n, n < 20 → (UInt8.ofNat (97 + n)).toNat = 97 + n := fun n hn => by rw [UInt8.toNat_ofNat']; omega
  simp only [Function.comp] at e'
  rw [this i (by omega), this j (by omega)] at e'
  omega
theorem aw_length (c : UInt8) (v : List UInt8) : (aw c v).length = 6 + (esc true v).length := by
  simp only [aw, List.length_cons, List.length_append, List.length_nil]
  omega
end Go.Proofs.YtncfgahnjakeiabDoor
