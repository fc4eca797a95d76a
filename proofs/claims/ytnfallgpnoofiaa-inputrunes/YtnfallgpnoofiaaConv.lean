/-
  Conversions between texts and rows of bytes in memory; Decode of a converted text; what the plain function makes of printable bytes and marks.
-/
import Derived.Test.YtnfallgpnoofiaaKnown
import Derived.Test.YtnfallgpnoofiaaSpec
namespace Go.Proofs.Ytnfallgpnoofiaa
open Go.RowKit

/-- A printable byte out of any. -/
def prB (c : UInt8) : UInt8 := UInt8.ofNat (c.toNat % 95 + 32)
def prL (l : List UInt8) : List UInt8 := l.map prB

theorem conv_new (X : World) (n : Int) (N : Nat) (hN : N = X.heap.size) : (convert 23 9 (.slice (some ⟨N, 0, none⟩) 1 1)).run Try.prog (X.alloc (.cells #[.int .u8 n] 5)) = .ok (.string ⟨#[UInt8.ofNat n.toNat]⟩) (X.alloc (.cells #[.int .u8 n] 5)) := by
  subst hN
  rw [run_convert_bytes_string _ 23 9 5 _ 1 1 Try.underlying23 Try.underlying5 Try.underlying9]
  have hl := run_loadCells_list (P := Try.prog) (X.alloc (.cells #[.int .u8 n] 5)) ⟨X.heap.size, 0, none⟩ ([n].map (Value.int .u8)) (fun j v hj => by
    match j, hj with
    | 0, hj =>
      simp at hj
      subst hj
      rw [Addr.add_lit]
      simp)
  exact run_bytesToString _ _ 1 1 [n] hl

/-- What '[]byte(st)' lays. -/
def bcap (X : World) (st : ByteArray) : Nat := grownCap X st.size 0 5
def bobj (X : World) (st : ByteArray) : Obj := .cells (bytesRow st (bcap X st)) 5 ((bytesRow st (bcap X st)).size, (bytesRow st (bcap X st)).size + 1)
theorem conv_bytes (X : World) (st : ByteArray) : (convert 9 23 (.string st)).run Try.prog X = .ok (.slice (some ⟨X.heap.size, 0, none⟩) st.size (bcap X st)) (X.alloc (bobj X st)).drew :=
  run_bytes_of_string X 9 23 5 st Try.underlying9 Try.underlying23 Try.underlying5
theorem bobj_row (X : World) (st : ByteArray) (j : Nat) (hj : j < st.data.toList.length) : (X.alloc (bobj X st)).drew.cell? ⟨X.heap.size, 0 + j, none⟩ = some (.int .u8 (st.data.toList[j].toNat : Int)) := by
  unfold bobj
  rw [Nat.zero_add, World.cell?_drew, cell_block (heap_alloc_new X _)]
  unfold bytesRow
  have hj' : j < st.data.size := by simpa using hj
  rw [Array.getElem?_append_left (by simpa using hj')]
  simp
  exact ⟨_, Array.getElem?_eq_getElem hj', rfl⟩

/-- Decode of '[]byte(st)'. -/
theorem decode_str (X : World) (st out : ByteArray) (N n c : Nat) (hN : N = X.heap.size) (hn : n = st.size) (hl : st.size ≤ 100000000000) (hout : decS st.data.toList = out.data.toList) :
    Calls Try.prog 13 #[.slice (some ⟨N, 0, none⟩) n c] (X.alloc (bobj X st)).drew fun e w' => e = .returned (.string out) ∧ Kept (fun k => k < X.heap.size) X w' := by
  subst hN
  have hn' : n = st.data.toList.length := by rw [hn]; simp
  subst hn'
  refine (decode_any (K := fun k => k < X.heap.size + 1) (by simp) st.data.toList _ c (.inr ⟨X.heap.size, 0, rfl, Nat.lt_succ_self _, bobj_row X st⟩) (by simp; omega)).mono ?_
  rintro e w' ⟨rfl, hk⟩
  refine ⟨?_, (((Kept.refl _ X).alloc (fun _ h => h) _).drew).trans (hk.mono fun k hk => Nat.lt_succ_of_lt hk)⟩
  rw [hout]

theorem ba_toList (l : List UInt8) : (ByteArray.mk l.toArray).data.toList = l := rfl

theorem prB_lt (c : UInt8) : 32 ≤ (prB c).toNat ∧ (prB c).toNat < 127 := by
  have := Nat.mod_lt c.toNat (show 0 < 95 by decide)
  unfold prB
  have e : (UInt8.ofNat (c.toNat % 95 + 32)).toNat = c.toNat % 95 + 32 := by
    rw [UInt8.toNat_ofNat']
    omega
  omega
theorem ch_low (p : List UInt8) (lo hi : UInt8) (c : UInt8) (l : List UInt8) (h : c.toNat < 128) : ch p 0 lo hi (c :: l) = c :: ch0 l := by
  rw [ch, if_pos rfl]
  have hb : (behindS c).1 = 0 := by
    rcases Nat.eq_zero_or_pos (behindS c).1 with h0 | h0
    · exact h0
    · have := (behind_up (c := c) (by omega)).1; omega
  rw [if_pos hb]
  simp [rawB, h, ch0]
/-- Bytes below 128 without 13 are themselves. -/
theorem ch0_low : ∀ l : List UInt8, (∀ c ∈ l, c.toNat < 128) → ch0 l = l
  | [], _ => by simp [ch0, ch]
  | c :: l, h => by
    unfold ch0
    rw [ch_low _ _ _ c l (h c (by simp)), ch0_low l (fun d hd => h d (by simp [hd]))]
theorem nl_id : ∀ l : List UInt8, (∀ c ∈ l, c.toNat ≠ 13) → nl false l = l
  | [], _ => rfl
  | c :: l, h => by
    rw [nl, if_neg (h c (by simp)), if_neg (by simp), nl_id l (fun d hd => h d (by simp [hd]))]
/-- A mark is three bytes that ask for one another. -/
theorem ch_mark (l : List UInt8) : ch0 (markB ++ l) = markB ++ ch0 l := by
  simp [ch0, markB, ch, behindS]
theorem ch0_up_low (c : UInt8) (l : List UInt8) (h : c.toNat < 128) : ch0 (c :: l) = c :: ch0 l := ch_low _ _ _ c l h

theorem pr_low (l : List UInt8) : ∀ c ∈ prL l, c.toNat < 128 := by
  intro c hc
  obtain ⟨d, _, rfl⟩ := List.mem_map.1 hc
  have := prB_lt d; omega
theorem pr_13 (l : List UInt8) : ∀ c ∈ prL l, c.toNat ≠ 13 := by
  intro c hc
  obtain ⟨d, _, rfl⟩ := List.mem_map.1 hc
  have := prB_lt d; omega
theorem nl_pr (l : List UInt8) : nl false (prL l) = prL l := nl_id _ (pr_13 l)
theorem mark1 (l : List UInt8) : decS (markB ++ prL l) = prL l := by
  rw [decS_spec, specB, ch_mark, ch0_low _ (pr_low l)]
  simp [strip, markB, nl_pr]
theorem mark2 (l : List UInt8) : decS (markB ++ (markB ++ prL l)) = markB ++ prL l := by
  rw [decS_spec, specB, ch_mark, ch_mark, ch0_low _ (pr_low l)]
  have : strip (markB ++ (markB ++ prL l)) = markB ++ prL l := by simp [strip, markB]
  rw [this, nl_up markB false _ (by unfold Up; decide) (by decide), nl_pr]
theorem mark3 (l : List UInt8) : decS (120 :: (markB ++ prL l)) = 120 :: (markB ++ prL l) := by
  rw [decS_spec, specB, ch0_up_low _ _ (by decide), ch_mark, ch0_low _ (pr_low l)]
  have : strip (120 :: (markB ++ prL l)) = 120 :: (markB ++ prL l) := by simp [strip, markB]
  rw [this, nl, if_neg (by decide), if_neg (by simp), nl_up markB false _ (by unfold Up; decide) (by decide), nl_pr]
theorem prL_snoc (l : List UInt8) (c : UInt8) : prL (l ++ [c]) = prL l ++ [prB c] := by simp [prL]
theorem prB_eq (n : Nat) : UInt8.ofNat (n % 95) + 32 = UInt8.ofNat (n % 95 + 32) := by
  apply UInt8.toNat_inj.1
  simp [UInt8.toNat_add]
end Go.Proofs.Ytnfallgpnoofiaa
