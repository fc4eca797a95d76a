/-
  What the reader of tokens makes of a text of bytes 0 and of letters.
-/
import Derived.Test.YtncfgahnjakeiabDoorLet
namespace Go.Proofs.YtncfgahnjakeiabDoor

/-- Where bytes 0 stand. -/
def zAt : Nat → List UInt8 → List Nat
  | _, [] => []
  | n, c :: r => if c = 0 then n :: zAt (n + 1) r else zAt (n + 1) r
theorem zAt_append : ∀ (n : Nat) (a b : List UInt8), zAt n (a ++ b) = zAt n a ++ zAt (n + a.length) b
  | _, [], _ => by simp [zAt]
  | n, c :: r, b => by
    have ih := zAt_append (n + 1) r b
    rw [List.cons_append, zAt, zAt, ih, List.length_cons, show n + 1 + r.length = n + (r.length + 1) by omega]
    split <;> rfl
theorem zAt_length : ∀ (n : Nat) (l : List UInt8), (zAt n l).length ≤ l.length
  | _, [] => Nat.le_refl _
  | n, c :: r => by
    have := zAt_length (n + 1) r
    rw [zAt]
    split <;> simp only [List.length_cons] <;> omega
/-- Texts of bytes 0 and plain bytes. -/
theorem run_nulls : ∀ (l : List UInt8) (s : TS), (∀ c ∈ l, c = 0 ∨ plain c) → s.rest = l → ∃ a, s.run = (TS.mk [] (s.pl + l.length) s.toks (s.flts ++ (zAt s.pl l).map (Fl.mk 3)) (s.text ++ nz l) a).endT
  | [], s, _, h => by
    refine ⟨s.tat, ?_⟩
    rw [run_nil h]
    obtain ⟨rest, pl, toks, flts, text, tat⟩ := s
    have h : rest = [] := h
    subst h
    simp [zAt, nz]
  | c :: r, s, hc, h => by
    by_cases h0 : c = 0
    · subst h0
      obtain ⟨a, ha⟩ := run_nulls r ((s.flt 3 s.pl).cut 1) (fun d hd => hc d (List.mem_cons_of_mem _ hd)) (by show s.rest.drop 1 = r; rw [h]; rfl)
      refine ⟨a, ?_⟩
      rw [run_null h, ha]
      have e1 : nz (0 :: r) = nz r := by simp [nz]
      have e2 : zAt s.pl (0 :: r) = s.pl :: zAt (s.pl + 1) r := by rw [zAt, if_pos rfl]
      rw [e1, e2]
      simp only [TS.flt, TS.cut, List.map_cons, List.append_assoc, List.length_cons, List.cons_append, List.nil_append]
      rw [show s.pl + 1 + r.length = s.pl + (r.length + 1) by omega]
    · have hp : plain c := by
        rcases hc c List.mem_cons_self with e | e
        · exact absurd e h0
        · exact e
      obtain ⟨a, ha⟩ := run_nulls r ((s.cut 1).addT [c] s.pl) (fun d hd => hc d (List.mem_cons_of_mem _ hd)) (by rw [(addT_rest _ _ _).1]; show s.rest.drop 1 = r; rw [h]; rfl)
      refine ⟨a, ?_⟩
      rw [run_plain h hp, ha]
      have e1 : nz (c :: r) = c :: nz r := by simp [nz, h0]
      have e2 : zAt s.pl (c :: r) = zAt (s.pl + 1) r := by rw [zAt, if_neg h0]
      rw [e1, e2]
      unfold TS.addT
      rw [if_neg (List.cons_ne_nil _ _)]
      simp only [TS.cut, List.append_assoc, List.length_cons, List.cons_append, List.nil_append]
      rw [show s.pl + 1 + r.length = s.pl + (r.length + 1) by omega]
theorem tok_nulls {l : List UInt8} (hc : ∀ c ∈ l, c = 0 ∨ plain c) : ∃ a, (tokL l).toks = (if nz l = [] then [] else [⟨3, [], [], false, nz l, a⟩]) ∧ (tokL l).flts = (zAt 0 l).map (Fl.mk 3) := by
  obtain ⟨a, ha⟩ := run_nulls l (TS.new l) hc rfl
  refine ⟨a, ?_⟩
  unfold tokL
  rw [ha]
  by_cases h : nz l = []
  · rw [if_pos h]
    simp [TS.endT, TS.new, h]
  · rw [if_neg h]
    simp [TS.endT, TS.new, h]

/-- A text of bytes 0 and letters out of bytes. -/
def nxB (c : UInt8) : UInt8 := if c.toNat % 4 = 0 then 0 else 120
def nxL (l : List UInt8) : List UInt8 := l.map nxB
theorem nx_all (l : List UInt8) : ∀ c ∈ nxL l, c = 0 ∨ plain c := by
  intro b hb
  obtain ⟨c, _, rfl⟩ := List.mem_map.1 hb
  unfold nxB
  split
  · exact .inl rfl
  · exact .inr ⟨by decide, by decide, by decide⟩
theorem nx_snoc (l : List UInt8) (c : UInt8) : nxL (l ++ [c]) = nxL l ++ [nxB c] := by simp [nxL]
theorem nz_append (a b : List UInt8) : nz (a ++ b) = nz a ++ nz b := by simp [nz]
end Go.Proofs.YtncfgahnjakeiabDoor
