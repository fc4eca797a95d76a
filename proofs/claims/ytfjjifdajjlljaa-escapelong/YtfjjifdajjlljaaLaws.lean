/-
  Facts on what is written, in the shape that the statements' walks want; a text of letters out of any text.
-/
import Derived.Test.YtfjjifdajjlljaaText
import Derived.Laws.Runes
namespace Go.Proofs.Ytfjjifdajjlljaa
open Go.RowKit

theorem escB_size (q : Bool) (s : ByteArray) : (⟨(esc q s.data.toList).toArray⟩ : ByteArray).size ≤ 6 * s.size := esc_short q s.data.toList
theorem escB_long (q : Bool) (s : ByteArray) : s.size ≤ (⟨(esc q s.data.toList).toArray⟩ : ByteArray).size := esc_long q s.data.toList
theorem escB_grow (s : ByteArray) : (⟨(esc false s.data.toList).toArray⟩ : ByteArray).size ≤ (⟨(esc true s.data.toList).toArray⟩ : ByteArray).size := esc_grow s.data.toList
theorem app_list (a b : ByteArray) : (a ++ b).data.toList = a.data.toList ++ b.data.toList := by
  rw [ByteArray.data_append, Array.toList_append]
theorem esc_parts (q : Bool) {s : ByteArray} (h : s.data.toList.getLast? ≠ some 194) {t : ByteArray} : (⟨(esc q (s ++ t).data.toList).toArray⟩ : ByteArray) = ⟨(esc q s.data.toList).toArray⟩ ++ ⟨(esc q t.data.toList).toArray⟩ := by
  rw [app_list, esc_append q _ _ h, mk_app]
theorem okB {a : ByteArray} (h : okA a.data.toList) {k : Nat} (hk : k < a.size) (h38 : a[k] = 38) : k + 3 < a.size ∧ ∀ h1 : k + 1 < a.size, a[k + 1] = 97 ∨ a[k + 1] = 108 ∨ a[k + 1] = 103 ∨ a[k + 1] = 110 := by
  have hk' : k < a.data.toList.length := hk
  obtain ⟨h1, h2⟩ := h k (by rw [List.getElem?_eq_getElem hk', ← h38]; rfl)
  refine ⟨h1, fun hk1 => ?_⟩
  have hk1' : k + 1 < a.data.toList.length := hk1
  rw [List.getElem?_eq_getElem hk1'] at h2
  rcases h2 with h | h | h | h
  · exact .inl (Option.some.inj h)
  · exact .inr (.inl (Option.some.inj h))
  · exact .inr (.inr (.inl (Option.some.inj h)))
  · exact .inr (.inr (.inr (Option.some.inj h)))
theorem allB (attr q : Bool) (s : ByteArray) : (⟨(allL attr (ByteArray.mk (esc q s.data.toList).toArray).data.toList).toArray⟩ : ByteArray) = s := by
  rw [show (ByteArray.mk (esc q s.data.toList).toArray).data.toList = esc q s.data.toList from rfl, all_esc]

/-- A small letter out of any byte. -/
def leB (c : UInt8) : UInt8 := UInt8.ofNat (97 + c.toNat % 26)
def leL (l : List UInt8) : List UInt8 := l.map leB
abbrev txt (l : List UInt8) : ByteArray := ⟨l.toArray⟩
theorem txt_size (l : List UInt8) : (txt l).size = l.length := rfl
theorem leL_snoc (l : List UInt8) (c : UInt8) : leL (l ++ [c]) = leL l ++ [leB c] := by simp [leL]
theorem leB_eq (c : UInt8) : leB c = 97 + UInt8.ofNat (c.toNat % 26) := by
  apply UInt8.toNat_inj.1
  simp [leB, UInt8.toNat_add]
theorem le_all (l : List UInt8) : ∀ c ∈ leL l, 97 ≤ c.toNat ∧ c.toNat ≤ 122 := by
  intro b hb
  obtain ⟨c, _, rfl⟩ := List.mem_map.1 hb
  have := Nat.mod_lt c.toNat (show 0 < 26 by decide)
  have e : (leB c).toNat = 97 + c.toNat % 26 := by
    unfold leB
    rw [UInt8.toNat_ofNat']
    omega
  omega
theorem esc_txt (q : Bool) {l : List UInt8} (h : ∀ c ∈ l, 97 ≤ c.toNat ∧ c.toNat ≤ 122) : (⟨(esc q (txt l).data.toList).toArray⟩ : ByteArray) = txt l := by
  rw [show (txt l).data.toList = l from rfl, esc_letters q l h]
theorem conv_new (X : World) (n : Int) (N : Nat) (hN : N = X.heap.size) : (convert 23 9 (.slice (some ⟨N, 0, none⟩) 1 1)).run Try.prog (X.alloc (.cells #[.int .u8 n] 5)) = .ok (.string ⟨#[UInt8.ofNat n.toNat]⟩) (X.alloc (.cells #[.int .u8 n] 5)) := by
  subst hN
  rw [run_convert_bytes_string _ 23 9 5 _ 1 1 Try.underlying23 Try.underlying5 Try.underlying9]
  have hl := run_loadCells_list (P := Try.prog) (X.alloc (.cells #[.int .u8 n] 5)) ⟨X.heap.size, 0, none⟩ ([n].map (Value.int .u8)) (fun j v hj => by
    match j, hj with
    | 0, hj =>
      simp at hj
      subst hj
      rw [Addr.add_lit]
      simp)
  exact run_bytesToString _ _ 1 1 [n] hl
end Go.Proofs.Ytfjjifdajjlljaa
