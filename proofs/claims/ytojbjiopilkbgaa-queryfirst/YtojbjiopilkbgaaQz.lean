/-
  Elements within one another: a chain.
-/
import Derived.Test.YtojbjiopilkbgaaQk
namespace Go.Proofs.Ytojbjiopilkbgaa
open Go.RowKit
set_option linter.unusedVariables false
set_option maxRecDepth 100000
set_option maxHeartbeats 4000000
/-- A row of bytes. -/
def RowB (w : World) (a : Option Addr) (S : List UInt8) : Prop := ∀ j (h : j < S.length), ∃ b o, a = some ⟨b, o, none⟩ ∧ b < w.heap.size ∧ w.cell? ⟨b, o + j, none⟩ = some (.int .u8 (S[j].toNat : Int))
theorem RowB.kept {w w' : World} {a : Option Addr} {S : List UInt8} (h : RowB w a S) (hk : Kept (fun k => k < w.heap.size) w w') : RowB w' a S := fun j hj => by
  obtain ⟨b, o, h1, h2, h3⟩ := h j hj
  exact ⟨b, o, h1, Nat.lt_of_lt_of_le h2 hk.size, (hk.cell (p := ⟨b, o + j, none⟩) h2).trans h3⟩
def nm3 (t : Nat) : List UInt8 := if t = 0 then [100, 105, 118] else if t = 1 then [98] else [120, 45, 97]
def nm3B (t : Nat) : ByteArray := ⟨(nm3 t).toArray⟩
theorem nm3B_list (t : Nat) : (nm3B t).toList = nm3 t := lisQ _
theorem nm3_ne {s t : Nat} (hs : s < 3) (ht : t < 3) (h : s ≠ t) : nm3 s ≠ nm3 t := by
  have : (s = 0 ∨ s = 1 ∨ s = 2) ∧ (t = 0 ∨ t = 1 ∨ t = 2) := ⟨by omega, by omega⟩
  obtain ⟨rfl | rfl | rfl, rfl | rfl | rfl⟩ := this <;> first | (exact absurd rfl h) | decide
theorem nm3_q (t : Nat) : nm3 t ≠ [113] := by
  unfold nm3
  split
  · decide
  · split <;> decide
def elt (t : Nat) : Nd := elq (nm3 t) []
def cl3 (c : UInt8) : Nat := c.toNat % 3
theorem cl3_lt (c : UInt8) : cl3 c < 3 := Nat.mod_lt _ (by decide)
/-- The nodes of a chain. -/
def xsC (l : List UInt8) : List Nd := frag0.new :: l.map fun c => elt (cl3 c)
def QC (n : Nat) (i : Nat) : List Nat := if i < n then [i + 1] else []
theorem xsC_len (l : List UInt8) : (xsC l).length = l.length + 1 := by unfold xsC; rw [List.length_cons, List.length_map]
theorem xsC_at (l : List UInt8) (j : Nat) (h : j < l.length) (h' : j + 1 < (xsC l).length) : (xsC l)[j + 1] = elt (cl3 l[j]) := by
  have e : (xsC l)[j + 1] = (l.map fun c => elt (cl3 c))[j]'(by rw [List.length_map]; exact h) := rfl
  rw [e, List.getElem_map]
theorem xsC_host (l : List UInt8) (k : Nat) (h : k < (xsC l).length) : (xsC l)[k].host = -1 := by
  cases k with
  | zero => rfl
  | succ j =>
    rw [xsC_len] at h
    rw [xsC_at l j (by omega)]; rfl
theorem sound3 (t : Nat) (ht : t < 3) : soundN ⟨1, nm3 t, [], []⟩ = true ∧ holdB (elt t) = true ∧ ¬ (1 = 1 ∧ nm3 t = [116, 101, 109, 112, 108, 97, 116, 101]) := by
  have : t = 0 ∨ t = 1 ∨ t = 2 := by omega
  rcases this with rfl | rfl | rfl <;> exact ⟨by decide +kernel, by decide +kernel, by decide⟩
theorem QC_succ (n : Nat) : updR (QC n) n (QC n n ++ [n + 1]) = QC (n + 1) := by
  funext j
  unfold updR QC
  by_cases c : j = n
  · subst c
    rw [if_pos rfl, if_neg (Nat.lt_irrefl _), if_pos (Nat.lt_succ_self _)]; rfl
  · rw [if_neg c]
    by_cases d : j < n
    · rw [if_pos d, if_pos (by omega)]
    · rw [if_neg d, if_neg (by omega)]
theorem QC_mem {n u i : Nat} (h : i ∈ QC n u) : i = u + 1 ∧ u < n := by
  unfold QC at h
  by_cases c : u < n
  · rw [if_pos c] at h
    exact ⟨List.mem_singleton.1 h, c⟩
  · rw [if_neg c] at h; cases h
section
variable {K : Nat → Prop} {w : World} {p : Nat}
/-- One more element, not yet put in. -/
theorem chain_make {l : List UInt8} (h : Dq 300 K w p (xsC l) (QC l.length)) (t : Nat) (ht : t < 3) (hl : l.length < 100) :
    Calls Try.prog 7 #[.pointer (some ⟨p, 0, none⟩), nodeV 1 (nm3B t) ⟨#[]⟩ none 0 0 rest0] w fun e w' => e = .returned (.tuple #[.int .i64 ((l.length + 1 : Nat) : Int), .int .u16 0]) ∧ Dq 300 K w' p (xsC l ++ [elt t]) (QC l.length) ∧ Kept K w w' := by
  have r := h.makeA 1 (nm3B t) ⟨#[]⟩ [] none 0 0 rest0 (nm3 t) [] (nm3B_list t) (by rw [ByteArray.toList_eq]) rfl (by decide) (AtsAt.nil _ _ _) (fun x hx => by cases hx) (sound3 t ht).1 (sound3 t ht).2.2 (by unfold QC; rw [xsC_len, if_neg (by omega)]) (by rw [xsC_len]; omega) (fun h => absurd h (by decide))
  rw [xsC_len] at r
  exact r
theorem chain_ins {l : List UInt8} (c : UInt8) (h : Dq 300 K w p (xsC l ++ [elt (cl3 c)]) (QC l.length)) :
    Calls Try.prog 8 #[.pointer (some ⟨p, 0, none⟩), .int .i64 (l.length : Int), .int .i64 ((l.length + 1 : Nat) : Int), .int .i64 (-1)] w fun e w' => e = .returned (.int .u16 0) ∧ Dq 300 K w' p (xsC (l ++ [c])) (QC (l.length + 1)) ∧ Kept K w w' := by
  have e : xsC l ++ [elt (cl3 c)] = xsC (l ++ [c]) := by unfold xsC; rw [List.map_append]; rfl
  rw [e] at h
  have hl : (xsC (l ++ [c])).length = l.length + 2 := by rw [xsC_len, List.length_append]; rfl
  have e2 : ∀ hh, (xsC (l ++ [c]))[l.length + 1]'hh = elt (cl3 c) := fun hh => by
    rw [xsC_at _ _ (by rw [List.length_append]; exact Nat.lt_succ_self _), List.getElem_append_right (Nat.le_refl _)]
    simp
  have hh : ∀ m (hm : m < (xsC (l ++ [c])).length), holdB ((xsC (l ++ [c]))[m]'hm) = true := fun m hm => by
    cases m with
    | zero => rfl
    | succ m =>
      rw [xsC_at _ m (by rw [xsC_len] at hm; omega)]
      exact (sound3 _ (cl3_lt _)).2.1
  have r := h.ins l.length (l.length + 1) (by omega) (by omega) (by omega) (hh _ _) (by omega) (by rw [e2]; show (1 : Nat) ≠ 5; decide) (by rw [e2]; show (1 : Nat) ≠ 4; decide) (fun u hu hm => by have := QC_mem hm; omega) (by unfold QC; rw [if_neg (by omega)]) (fun k hk => by rw [xsC_host]; omega)
  rw [QC_succ] at r
  exact r
end
/-- The place of the nearest one of a class. -/
def wanC (t : Nat) : List UInt8 → Int
  | [] => -1
  | c :: r => if cl3 c = t then ((r.length + 1 : Nat) : Int) else wanC t r
def wan (t : Nat) (l : List UInt8) : Int := wanC t l.reverse
theorem wan_snoc (t : Nat) (l : List UInt8) (c : UInt8) : wan t (l ++ [c]) = if cl3 c = t then ((l.length + 1 : Nat) : Int) else wan t l := by
  unfold wan
  rw [List.reverse_append]
  show (if cl3 c = t then ((l.reverse.length + 1 : Nat) : Int) else wanC t l.reverse) = _
  rw [List.length_reverse]
theorem wan_clo {M : Dm} {R G : Nat → List Nat} {rk : Nat → Nat} {l : List UInt8} (hd : Dl 300 M R G (xsC l) (QC l.length)) (hI : Inv M R G rk) (nm : List UInt8) (t : Nat) (ht : t < 4) (hnm : nm = if t = 3 then [113] else nm3 t) : ∀ j, j ≤ l.length → Clo M nm (j : Int) (wan t (l.take j))
  | 0, _ => by
    have hn : M.n = l.length + 1 := by rw [hd.n, xsC_len]
    have e0 : M.nd 0 = frag0.new := hd.nd 0 (by rw [xsC_len]; omega)
    have hb : namB nm (M.nd 0) = false := by rw [e0]; rfl
    have hu : (M.pl 0).up = -1 := hd.free hI (by rw [xsC_len]; omega) (fun u _ hm => by have := QC_mem hm; omega)
    exact .up (by omega) hb (by rw [hu]; exact .out (.inl (by decide)))
  | j + 1, hj => by
    have hn : M.n = l.length + 1 := by rw [hd.n, xsC_len]
    have hjl : j < l.length := by omega
    have e1 : M.nd (j + 1) = elt (cl3 l[j]) := by rw [hd.nd (j + 1) (by rw [xsC_len]; omega), xsC_at l j hjl]
    have hu : (M.pl (j + 1)).up = (j : Int) := hd.up hI (by rw [xsC_len]; omega) (by unfold QC; rw [if_pos hjl]; exact List.mem_singleton.2 rfl)
    have ih := wan_clo hd hI nm t ht hnm j (by omega)
    rw [List.take_succ_eq_append_getElem hjl, wan_snoc, List.length_take, Nat.min_eq_left (by omega)]
    have hnb : namB nm (M.nd (j + 1)) = decide (cl3 l[j] = t) := by
      rw [e1]
      unfold namB
      show (true && decide (nm3 (cl3 l[j]) = nm)) = _
      rw [Bool.true_and, hnm]
      have h3 := cl3_lt l[j]
      by_cases c3 : t = 3
      · rw [if_pos c3, decide_eq_false (nm3_q _), decide_eq_false (by omega)]
      · rw [if_neg c3]
        by_cases c : cl3 l[j] = t
        · rw [decide_eq_true c, decide_eq_true (by rw [c])]
        · rw [decide_eq_false c, decide_eq_false (nm3_ne h3 (by omega) c)]
    by_cases c : cl3 l[j] = t
    · rw [if_pos c]
      exact .here (by omega) (by rw [hnb, decide_eq_true c])
    · rw [if_neg c]
      exact .up (by omega) (by rw [hnb, decide_eq_false c]) (by rw [hu]; exact ih)
theorem wan_no (l : List UInt8) : wan 3 l = -1 := by
  unfold wan
  generalize l.reverse = r
  induction r with
  | nil => rfl
  | cons c r ih =>
    show (if cl3 c = 3 then _ else wanC 3 r) = _
    rw [if_neg (by have := cl3_lt c; omega)]; exact ih
end Go.Proofs.Ytojbjiopilkbgaa
