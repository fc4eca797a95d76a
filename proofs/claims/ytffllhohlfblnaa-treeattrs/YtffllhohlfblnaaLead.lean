/-
  Small facts on names, references and lists of bytes.
-/
import Derived.Test.YtffllhohlfblnaaStarts
import Derived.Laws.Rows
import Derived.Deep.DeepCutAuto
import Derived.Deep.RegionHeld3
import Derived.Deep.CutBlock
import Derived.Deep.LoopGhost
namespace Go.Proofs.Ytffllhohlfblnaa
open Go.RowKit
/-- A name's value, as the table holds it. -/
def nmB (r : Nm) : ByteArray := ⟨r.name.toArray⟩
theorem nmB_list (r : Nm) : (nmB r).data.toList = r.name := rfl
theorem nmB_size (r : Nm) : (nmB r).size = r.name.length := rfl
theorem lenN_no {r : Nm} {s : ByteArray} (h : preS (nmB r) s = false) : lenN r s.data.toList = 0 := by
  unfold lenN
  rw [if_neg]
  rw [Bool.not_eq_true]
  exact h
theorem lenN_yes {r : Nm} {s : ByteArray} (h : preS (nmB r) s = true) : lenN r s.data.toList = if preS ⟨#[59]⟩ (s.extract (nmB r).size s.size) = true then (nmB r).size + 1 else if r.bare = true then (nmB r).size else 0 := by
  unfold lenN
  rw [if_pos (show r.name.isPrefixOf s.data.toList = true from h), nmB_size]
  unfold preS semi
  rw [extract_list]
  have e1 : s.data.toList.take s.size = s.data.toList := List.take_length
  rw [e1]
theorem tup3 {t : ByteArray} {n f : Int} {R : Ref} (h : R.text = t ∧ (R.n : Int) = n ∧ (R.fault : Int) = f) : Ending.returned (.tuple #[.string t, .int .i64 n, .int .u8 f]) = Ending.returned (.tuple #[.string R.text, .int .i64 R.n, .int .u8 R.fault]) := by
  rw [h.1, h.2.1, h.2.2]
theorem fields {R : Ref} {t : ByteArray} {n f : Nat} (h : R = ⟨t, n, f⟩) : R.text = t ∧ (R.n : Int) = (n : Int) ∧ (R.fault : Int) = (f : Int) := by
  subst h
  dsimp only
  exact ⟨rfl, rfl, rfl⟩
theorem step_no {l : List UInt8} {st : St} {r : Nm} (h : ¬ st.long < lenN r l) : stepN l st r = st := if_neg h
theorem step_yes {l : List UInt8} {st : St} {r : Nm} (h : st.long < lenN r l) : stepN l st r = ⟨r.code, lenN r l, semi (l.drop r.name.length)⟩ := if_pos h
theorem names_short : ∀ r ∈ names, r.name.length < 1000 := by decide
theorem names_code : ∀ r ∈ names, r.code < 10000 := by decide
theorem scan_code (l : List UInt8) : ∀ k, (scanN l (names.take k)).code < 10000 := by
  intro k
  have key : ∀ (rs : List Nm) (st : St), (∀ r ∈ rs, r.code < 10000) → st.code < 10000 → (rs.foldl (stepN l) st).code < 10000 := by
    intro rs
    induction rs with
    | nil => exact fun _ _ h => h
    | cons r rs ih =>
      intro st hm h
      refine ih _ (fun r hr => hm r (List.mem_cons_of_mem _ hr)) ?_
      unfold stepN
      split
      · exact hm r List.mem_cons_self
      · exact h
  exact key _ _ (fun r hr => names_code r (List.mem_of_mem_take hr)) (by show 0 < 10000; omega)
theorem get_data (s : ByteArray) (k : Nat) (h : k < s.size) : s.data.toList[k]'h = s[k] := rfl
theorem drop_cons {s : ByteArray} {k : Nat} (h : k < s.size) : s.data.toList.drop k = s[k] :: s.data.toList.drop (k + 1) := List.drop_eq_getElem_cons (show k < s.data.toList.length from h)

abbrev refV (R : Ref) : Value := .tuple #[.string R.text, .int .i64 R.n, .int .u8 R.fault]

theorem takeS_at {s : ByteArray} {k : Nat} (h : k < s.size) (attr : Bool) : takeS s k attr = takeL (s.data.toList.drop k) attr := by
  unfold takeS
  rw [if_pos (by omega), Int.toNat_natCast]
end Go.Proofs.Ytffllhohlfblnaa
