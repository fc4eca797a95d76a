/-
  Texts of letters, made of any text: what they are, and their lines and columns.
-/
import Derived.Test.YtinmabjcjdeekaaFacts
namespace Go.Proofs.Ytinmabjcjdeekaa
open Go.RowKit

/-- A printable byte out of any. -/
def prB (c : UInt8) : UInt8 := UInt8.ofNat (c.toNat % 95 + 32)
def prL (l : List UInt8) : List UInt8 := l.map prB

theorem conv_new (X : World) (n : Int) (N : Nat) (hN : N = X.heap.size) : (convert 29 9 (.slice (some ⟨N, 0, none⟩) 1 1)).run Try.prog (X.alloc (.cells #[.int .u8 n] 5)) = .ok (.string ⟨#[UInt8.ofNat n.toNat]⟩) (X.alloc (.cells #[.int .u8 n] 5)) := by
  subst hN
  rw [run_convert_bytes_string _ 29 9 5 _ 1 1 Try.underlying29 Try.underlying5 Try.underlying9]
  have hl := run_loadCells_list (P := Try.prog) (X.alloc (.cells #[.int .u8 n] 5)) ⟨X.heap.size, 0, none⟩ ([n].map (Value.int .u8)) (fun j v hj => by
    match j, hj with
    | 0, hj =>
      simp at hj
      subst hj
      rw [Addr.add_lit]
      simp)
  exact run_bytesToString _ _ 1 1 [n] hl
theorem prB_lt (c : UInt8) : 32 ≤ (prB c).toNat ∧ (prB c).toNat < 127 := by
  have := Nat.mod_lt c.toNat (show 0 < 95 by decide)
  unfold prB
  have e : (UInt8.ofNat (c.toNat % 95 + 32)).toNat = c.toNat % 95 + 32 := by
    rw [UInt8.toNat_ofNat']
    omega
  omega
theorem prL_snoc (l : List UInt8) (c : UInt8) : prL (l ++ [c]) = prL l ++ [prB c] := by simp [prL]
theorem prB_eq (n : Nat) : UInt8.ofNat (n % 95) + 32 = UInt8.ofNat (n % 95 + 32) := by
  apply UInt8.toNat_inj.1
  simp [UInt8.toNat_add]
theorem pr_all (l : List UInt8) : ∀ b ∈ prL l, 32 ≤ b.toNat ∧ b.toNat < 127 := by
  intro b hb
  obtain ⟨c, _, rfl⟩ := List.mem_map.1 hb
  exact prB_lt c
abbrev txt (l : List UInt8) : ByteArray := ⟨l.toArray⟩
theorem txt_size (l : List UInt8) : (txt l).size = l.length := rfl
theorem txt_spot {l : List UInt8} (h : ∀ b ∈ l, 32 ≤ b.toNat ∧ b.toNat < 127) {n : Nat} (hn : n ≤ l.length) : spot ((txt l).data.toList.take n) = (1, 1 + n) := by
  show spot (l.take n) = _
  rw [spot_letters _ fun b hb => h b (List.mem_of_mem_take hb), List.length_take, Nat.min_eq_left hn]
theorem txt_of {l : List UInt8} (h : ∀ b ∈ l, 32 ≤ b.toNat ∧ b.toNat < 127) {n : Nat} (hn : n ≤ l.length) : ofS (txt l) 1 ((n : Int) + 1) = some n := by
  refine ofS_some hn ?_ fun j hj => ?_
  · rw [hit_iff, txt_spot h hn]
    simp; omega
  · have e := txt_spot h (n := j) (by omega)
    have : ((1 + j : Nat) : Int) ≠ (n : Int) + 1 := by omega
    simp only [hit, e, decide_eq_false this, Bool.and_false]
theorem txt_none {l : List UInt8} (h : ∀ b ∈ l, 32 ≤ b.toNat ∧ b.toNat < 127) : ofS (txt l) 1 ((l.length : Int) + 2) = none := by
  refine ofS_none fun j hj => ?_
  have e := txt_spot h (n := j) hj
  have hj' : j ≤ l.length := hj
  have : ((1 + j : Nat) : Int) ≠ (l.length : Int) + 2 := by omega
  simp only [hit, e, decide_eq_false this, Bool.and_false]
end Go.Proofs.Ytinmabjcjdeekaa
