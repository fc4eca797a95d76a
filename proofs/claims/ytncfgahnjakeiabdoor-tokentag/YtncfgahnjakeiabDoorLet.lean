/-
  A text of letters out of any text, texts without some sign, and how they are laid together.
-/
import Derived.Test.YtncfgahnjakeiabDoorMc
namespace Go.Proofs.YtncfgahnjakeiabDoor
open Go.RowKit

/-- A small letter out of any byte. -/
def leB (c : UInt8) : UInt8 := UInt8.ofNat (97 + c.toNat % 26)
def leL (l : List UInt8) : List UInt8 := l.map leB
theorem leL_length (l : List UInt8) : (leL l).length = l.length := by simp [leL]
theorem leL_snoc (l : List UInt8) (c : UInt8) : leL (l ++ [c]) = leL l ++ [leB c] := by simp [leL]
theorem leB_eq (c : UInt8) : leB c = 97 + UInt8.ofNat (c.toNat % 26) := by
  apply UInt8.toNat_inj.1
  simp [leB, UInt8.toNat_add]
theorem le_all (l : List UInt8) : ∀ c ∈ leL l, 97 ≤ c.toNat ∧ c.toNat ≤ 122 := by
  intro b hb
  obtain ⟨c, _, rfl⟩ := List.mem_map.1 hb
  have := Nat.mod_lt c.toNat (show 0 < 26 by decide)
  have e : (leB c).toNat = 97 + c.toNat % 26 := by
    unfold leB
    rw [UInt8.toNat_ofNat']
    omega
  omega
theorem conv_new (X : World) (n : Int) (N : Nat) (hN : N = X.heap.size) : (convert 24 9 (.slice (some ⟨N, 0, none⟩) 1 1)).run Tryd.prog (X.alloc (.cells #[.int .u8 n] 5)) = .ok (.string ⟨#[UInt8.ofNat n.toNat]⟩) (X.alloc (.cells #[.int .u8 n] 5)) := by
  subst hN
  rw [run_convert_bytes_string _ 24 9 5 _ 1 1 Tryd.underlying24 Tryd.underlying5 Tryd.underlying9]
  have hl := run_loadCells_list (P := Tryd.prog) (X.alloc (.cells #[.int .u8 n] 5)) ⟨X.heap.size, 0, none⟩ ([n].map (Value.int .u8)) (fun j v hj => by
    match j, hj with
    | 0, hj =>
      simp at hj
      subst hj
      rw [Addr.add_lit]
      simp)
  exact run_bytesToString _ _ 1 1 [n] hl
/-- A text without a sign. -/
def nc (d : UInt8) (l : List UInt8) : List UInt8 := l.filter (· ≠ d)
abbrev ng (l : List UInt8) : List UInt8 := nc 62 l
theorem nc_mem {d : UInt8} {l : List UInt8} : ∀ c ∈ nc d l, c ≠ d := fun c hc => by simpa using (List.mem_filter.1 hc).2
theorem nc_snoc (d : UInt8) {s : ByteArray} {k : Nat} (h : k < s.size) : nc d (s.data.toList.take (k + 1)) = if s[k] = d then nc d (s.data.toList.take k) else nc d (s.data.toList.take k) ++ [s[k]] := by
  rw [take_snoc h]
  unfold nc
  rw [List.filter_append]
  by_cases hc : s[k] = d
  · rw [if_pos hc]
    simp [hc]
  · rw [if_neg hc]
    simp [hc]
theorem ng_mem {l : List UInt8} : ∀ c ∈ ng l, c ≠ 62 := nc_mem
theorem ng_snoc {s : ByteArray} {k : Nat} (h : k < s.size) : ng (s.data.toList.take (k + 1)) = if s[k] = 62 then ng (s.data.toList.take k) else ng (s.data.toList.take k) ++ [s[k]] := nc_snoc 62 h
theorem mk_app2 (a b : List UInt8) : (⟨a.toArray⟩ : ByteArray) ++ ⟨b.toArray⟩ = ⟨(a ++ b).toArray⟩ := mk_app a ⟨b.toArray⟩
end Go.Proofs.YtncfgahnjakeiabDoor
