/-
  What names.Lower and the document's Lower answer.
-/
import Derived.Test.YtncfgahnjakeiabDoorProg
import Derived.Test.YtncfgahnjakeiabDoorBase
import Derived.Test.YtncfgahnjakeiabDoorMa
import Derived.Deep.QuietTactic
import Derived.BigQuiet
namespace Go.Proofs.YtncfgahnjakeiabDoor
open Go.RowKit
theorem info5 : (Tryd.prog.info? 5).map (fun i => (i.zero, i.size, i.bytes)) = some (some (.int .u8 0), 1, 1) := by kernel_rfl

theorem lowB_up {c : UInt8} (h1 : 65 ≤ c.toNat) (h2 : c.toNat ≤ 90) : Value.int .u8 ((c.toNat : Int) - 65 + 97) = bv (lowB c) := by
  have : (lowB c).toNat = c.toNat + 32 := by
    unfold lowB
    rw [if_pos ⟨h1, h2⟩, UInt8.toNat_add]
    show (c.toNat + 32) % 256 = _
    omega
  show _ = Value.int .u8 ((lowB c).toNat : Int)
  rw [this]
  exact congrArg (Value.int .u8) (by omega)
theorem lowB_up' {c : UInt8} (h1 : 65 ≤ c.toNat) (h2 : c.toNat ≤ 90) : Value.int .u8 ((c.toNat : Int) + 32) = bv (lowB c) := by
  rw [← lowB_up h1 h2]
  exact congrArg (Value.int .u8) (by omega)
theorem lowL_snoc {s : ByteArray} {k : Nat} (hk : k < s.size) : bvs (lowL (s.data.toList.take (k + 1))) = bvs (lowL (s.data.toList.take k)) ++ [bv (lowB s[k])] := by
  have h : k < s.data.toList.length := hk
  rw [List.take_succ_eq_append_getElem h]
  simp [lowL, bvs]
  rfl

/-- What '[]byte(st)' lays. -/
def bcap (X : World) (st : ByteArray) : Nat := grownCap X st.size 0 5
def bobj (X : World) (st : ByteArray) : Obj := .cells (bytesRow st (bcap X st)) 5 ((bytesRow st (bcap X st)).size, (bytesRow st (bcap X st)).size + 1)
theorem conv_bytes (X : World) (st : ByteArray) : (convert 9 24 (.string st)).run Tryd.prog X = .ok (.slice (some ⟨X.heap.size, 0, none⟩) st.size (bcap X st)) (X.alloc (bobj X st)).drew :=
  run_bytes_of_string X 9 24 5 st Tryd.underlying9 Tryd.underlying24 Tryd.underlying5

/-- A row of bytes in a block, of which the first k are made small. -/
def Low (w : World) (N : Nat) (s : ByteArray) (k : Nat) : Prop := N < w.heap.size ∧ ∀ j (hj : j < s.size), w.cell? ⟨N, j, none⟩ = some (bv (if j < k then lowB s[j] else s[j])) ∧ w.frozen? ⟨N, j, none⟩ = false

theorem bobj_row (X : World) (st : ByteArray) : Low (X.alloc (bobj X st)).drew X.heap.size st 0 := by
  refine ⟨by simp, fun j hj => ?_⟩
  have hj' : j < st.data.size := hj
  have hb : (X.alloc (bobj X st)).drew.heap[X.heap.size]? = some (bobj X st) := heap_alloc_new X _
  have hs : j < (bytesRow st (bcap X st)).size := by
    unfold bytesRow
    rw [Array.size_append, Array.size_map]
    omega
  constructor
  · rw [cell_block hb, if_neg (Nat.not_lt_zero _)]
    unfold bytesRow
    rw [Array.getElem?_append_left (by simpa using hj'), Array.getElem?_map, Array.getElem?_eq_getElem hj']
    rfl
  · unfold World.frozen?
    rw [hb]
    have : ¬ (bytesRow st (bcap X st)).size ≤ j := by omega
    simp [bobj, this]

theorem Low.at {w : World} {N : Nat} {s : ByteArray} {k : Nat} (h : Low w N s k) (hk : k < s.size) : w.cell? ⟨N, k, none⟩ = some (bv s[k]) ∧ w.frozen? ⟨N, k, none⟩ = false := by
  have := h.2 k hk
  rwa [if_neg (Nat.lt_irrefl _)] at this
theorem Low.stay {w : World} {N : Nat} {s : ByteArray} {k : Nat} (h : Low w N s k) (hk : k < s.size) (hs : lowB s[k] = s[k]) : Low w N s (k + 1) := by
  refine ⟨h.1, fun j hj => ?_⟩
  have := h.2 j hj
  rcases Nat.lt_trichotomy j k with hl | rfl | hg
  · rw [if_pos (by omega)]
    rwa [if_pos hl] at this
  · rw [if_pos (by omega), hs]
    rwa [if_neg (Nat.lt_irrefl _)] at this
  · rw [if_neg (by omega)]
    rwa [if_neg (by omega)] at this
theorem Low.set {w : World} {N : Nat} {s : ByteArray} {k : Nat} (h : Low w N s k) (hk : k < s.size) (v : Value) (hv : v = bv (lowB s[k])) : Low (w.setCell ⟨N, k, none⟩ v) N s (k + 1) := by
  refine ⟨by simpa using h.1, fun j hj => ⟨?_, by rw [World.frozen?_setCell]; exact (h.2 j hj).2⟩⟩
  have := (h.2 j hj).1
  rcases Nat.lt_trichotomy j k with hl | rfl | hg
  · rw [if_pos (by omega), World.cell?_setCell_other _ _ _ _ (by intro e; injection e; omega)]
    rwa [if_pos hl] at this
  · rw [if_pos (by omega), World.cell?_setCell_same _ _ _ this, hv]
  · rw [if_neg (by omega), World.cell?_setCell_other _ _ _ _ (by intro e; injection e; omega)]
    rwa [if_neg (by omega)] at this
theorem Low.text {w : World} {N : Nat} {s : ByteArray} {k : Nat} (h : Low w N s k) (hk : ¬ k < s.size) (cap : Nat) : (convert 24 9 (.slice (some ⟨N, 0, none⟩) s.size cap)).run Tryd.prog w = .ok (.string ⟨(lowL s.data.toList).toArray⟩) w := by
  have hl : (lowL s.data.toList).length = s.size := by
    unfold lowL
    rw [List.length_map]
    rfl
  rw [← hl]
  refine run_convert_bytes_back w 24 9 5 ⟨N, 0, none⟩ cap (lowL s.data.toList) Tryd.underlying24 Tryd.underlying5 Tryd.underlying9 fun j hj => ?_
  have hj' : j < s.size := by omega
  have := (h.2 j hj').1
  rw [if_pos (by omega)] at this
  rw [Addr.add_lit, Nat.zero_add, this]
  have e : (lowL s.data.toList)[j] = lowB s[j] := List.getElem_map ..
  rw [e]

set_option maxRecDepth 20000 in
set_option maxHeartbeats 1000000 in
theorem lower_any (s : ByteArray) (K : Nat → Prop) (w : World) (hK : ∀ k, K k → k < w.heap.size) (hs : s.size < 1000000) :
    Calls Tryd.prog 51 #[.string s] w fun e w' => e = .returned (.string ⟨(lowL s.data.toList).toArray⟩) ∧ Kept K w w' := by
  have hcv := conv_bytes w s
  have hrow := bobj_row w s
  have hk0 : Kept K w (w.alloc (bobj w s)).drew := ((Kept.refl K w).alloc hK _).drew
  obtain ⟨cap, hcap⟩ : ∃ c, bcap w s = c := ⟨_, rfl⟩
  rw [hcap] at hcv
  obtain ⟨X, hX⟩ : ∃ X, (w.alloc (bobj w s)).drew = X := ⟨_, rfl⟩
  rw [hX] at hcv hrow hk0
  clear hX hcap
  go_enter Tryd.func51, Tryd.ntmps51
  go_wp2_with fail
  go_loopw [4, 5, 10, 11, 12, 13, 14, 15, 16, 17, 18, 19, 20, 21, 22, 23, 24, 25, 26, 27] (fun _ _ i _ _ _ _ _ _ _ _ _ _ _ _ _ _ _ _ _ wr => ∃ k : Nat, k ≤ s.size ∧ i = .int .i64 k ∧ Low wr w.heap.size s k ∧ Kept K w wr) (fun _ _ i _ _ _ _ _ _ _ _ _ _ _ _ _ _ _ _ _ _ => s.size - (intOf i).toNat)
  case atStart => exact ⟨0, Nat.zero_le _, rfl, hrow, hk0⟩
  case round =>
    clear hrow hk0 hcv
    obtain ⟨k, hk, rfl, hr, hkp⟩ := hrel
    by_cases hlt : k < s.size
    · obtain ⟨hck, hfk⟩ := hr.at hlt
      by_cases g1 : 65 ≤ s[k].toNat
      · have e1 : decide ((65 : Int) ≤ (s[k].toNat : Int)) = true := by simp; omega
        by_cases g2 : s[k].toNat ≤ 90
        · have e2 : decide ((s[k].toNat : Int) ≤ 90) = true := by simp; omega
          have hset := fun v hv => hr.set hlt v hv
          have hN : ¬ K w.heap.size := fun h => Nat.lt_irrefl _ (hK _ h)
          have hl := lowB_up g1 g2
          have g1' : (65 : Int) ≤ (s[k].toNat : Int) := by omega
          have g2' : (s[k].toNat : Int) ≤ 90 := by omega
          clear hr g1 g2
          go_wp2
          go_roundw
          case rel => exact ⟨k + 1, by omega, by go_num, hset _ rfl, hkp.setCell hN _⟩
          case measure => simp [intOf]; omega
        · have e2 : decide ((s[k].toNat : Int) ≤ 90) = false := by simp; omega
          have hnew := hr.stay hlt (if_neg fun h => g2 h.2)
          clear hr g1 g2
          go_wp2
          go_roundw
          case rel => exact ⟨k + 1, by omega, by go_num, hnew, hkp⟩
          case measure => simp [intOf]; omega
      · have e1 : decide ((65 : Int) ≤ (s[k].toNat : Int)) = false := by simp; omega
        have hnew := hr.stay hlt (if_neg fun h => g1 h.1)
        clear hr g1
        go_wp2
        go_roundw
        case rel => exact ⟨k + 1, by omega, by go_num, hnew, hkp⟩
        case measure => simp [intOf]; omega
    · have hcv2 := hr.text hlt cap
      go_wp2
      go_ret
      exact ⟨rfl, hkp⟩

end Go.Proofs.YtncfgahnjakeiabDoor
