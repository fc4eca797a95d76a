/-
  What the document's reader does with a tag: the blanks and slashes ahead of each of its parts.
-/
import Derived.Test.YtffllhohlfblnaaDI
import Derived.Test.YtffllhohlfblnaaDJ
import Derived.Test.YtffllhohlfblnaaNRef
namespace Go.Proofs.Ytffllhohlfblnaa
open Go.RowKit Go.Sort

/-- A cell is written that is none of the reader's. -/
theorem DX.setK {s : List UInt8} {K : Nat → Prop} {w : World} {p : Nat} {st : TS} (h : DX s K w p st) {b : Nat} (hb : K b) (i : Nat) (v : Value) : DX s K (w.setCell ⟨b, i, none⟩ v) p st := by
  obtain ⟨h1, h2, h3, A, ta, tc, tcs, fa, fc, ba, bc, z, hA, hpb, hz, hS, hr⟩ := h
  have hpn : p ≠ b := fun e => h2 (e ▸ hb)
  refine ⟨fun k hk => by simpa using h1 k hk, h2, h3, A, ta, tc, tcs, fa, fc, ba, bc, z, fun k hk => ⟨by simpa using (hA k hk).1, (hA k hk).2⟩, ?_, hz, hS.setCell (p := ⟨b, i, none⟩) (.inl hb) _, hr.kept ((Kept.refl A w).setCell (p := ⟨b, i, none⟩) (fun h => (hA b h).2.1 hb) _) fun _ h => h⟩
  rw [Below.heap_setCell _ _ _ _ (fun e => hpn e)]
  exact hpb
/-- What is new is kept, too: one block. -/
theorem DX.allocK {s : List UInt8} {K : Nat → Prop} {w : World} {p : Nat} {st : TS} (h : DX s K w p st) (o : Obj) : DX s (fun k => K k ∨ k = w.heap.size) (w.alloc o) p st := by
  refine h.more ((Kept.refl _ w).alloc (fun _ h => h) o) (fun k hk => ?_) (fun k hk => ?_)
  · rcases hk with hk | rfl
    · exact .inl hk
    · exact .inr (Nat.le_refl _)
  · rcases hk with hk | rfl
    · have := h.lt k hk
      simp
      omega
    · simp
/-- Is the last of these a slash? -/
def slP (l : List UInt8) : Bool := l.getLast? == some 47
theorem slP_snoc (l : List UInt8) (c : UInt8) : slP (l ++ [c]) = (c == 47) := by
  unfold slP
  rw [List.getLast?_append]
  simp
theorem out_sla (c : UInt8) (r : List UInt8) : hdOut sla (c :: r) = !(blankP c || c == 47) := by
  show (!sla.contains c) = _
  unfold blankP blk sla
  simp only [List.contains_cons, List.contains_nil, Bool.or_false, Bool.or_assoc]
theorem tagF_here {f : Nat} {st : TS} {attrs : List Atr} (hf : st.rest.length < f) : TS.tagF f st attrs =
    if (st.cutTo (hdOut sla)).rest = [] then ⟨(st.cutTo (hdOut sla)).flt 6 (st.cutTo (hdOut sla)).pl, attrs, false, false⟩
    else if pre [62] (st.cutTo (hdOut sla)).rest = true then ⟨(st.cutTo (hdOut sla)).cut 1, attrs, slP (st.front (hdOut sla)), true⟩
    else TS.tagF ((st.cutTo (hdOut sla)).attr attrs).st.rest.length.succ ((st.cutTo (hdOut sla)).attr attrs).st ((st.cutTo (hdOut sla)).attr attrs).attrs := by
  cases f with
  | zero => exact absurd hf (Nat.not_lt_zero _)
  | succ f =>
    rw [tagF_succ]
    split
    · rfl
    · split
      · rfl
      · rename_i h1 _
        have hlt := attr_lt h1 attrs
        have hle : (st.cutTo (hdOut sla)).rest.length ≤ st.rest.length := (mv_cutTo st (hdOut sla)).le
        exact tagF_enough _ _ _ _ (by omega) (Nat.lt_succ_self _)
/-- Where an attribute breaks off, so does the tag. -/
theorem attr_bad {st : TS} {attrs : List Atr} (h : (st.first.cutTo (hdIn atE)).value.ok = false) : (st.attr attrs).st.rest = [] ∧ (st.attr attrs).attrs = attrs := by
  have e : st.attr attrs = ⟨(st.first.cutTo (hdIn atE)).value.st, attrs⟩ := by
    unfold TS.attr
    rw [show (st.first.cutTo (hdIn [9, 10, 12, 32, 47, 62, 61])).value.ok = false from h, if_neg (by decide)]
  rw [e]
  exact ⟨value_end h, rfl⟩
end Go.Proofs.Ytffllhohlfblnaa
