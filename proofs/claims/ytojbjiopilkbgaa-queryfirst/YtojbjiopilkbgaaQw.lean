/-
  Elements side by side, some of one id; a shadow root, and one more element.
-/
import Derived.Test.YtojbjiopilkbgaaQz
namespace Go.Proofs.Ytojbjiopilkbgaa
open Go.RowKit
set_option linter.unusedVariables false
set_option maxRecDepth 100000
set_option maxHeartbeats 4000000
abbrev idL : List UInt8 := [105, 100]
abbrev divL : List UInt8 := [100, 105, 118]
def dv : Nd := elq divL []
def dq : Nd := elq divL [⟨idL, [113]⟩]
def bq : Nd := elq [98] [⟨idL, [114]⟩]
def xF (m f i : Nat) : List Nd := frag0.new :: (List.range' 1 m).map fun k => if f ≤ k ∧ k < i then dq else dv
def QF (m : Nat) (u : Nat) : List Nat := if u = 0 then List.range' 1 m else []
theorem xF_len (m f i : Nat) : (xF m f i).length = m + 1 := by unfold xF; rw [List.length_cons, List.length_map, List.length_range']
theorem xF_at (m f i k : Nat) (h : k < m) (h' : k + 1 < (xF m f i).length) : (xF m f i)[k + 1] = if f ≤ k + 1 ∧ k + 1 < i then dq else dv := by
  have e : (xF m f i)[k + 1] = ((List.range' 1 m).map fun k => if f ≤ k ∧ k < i then dq else dv)[k]'(by rw [List.length_map, List.length_range']; exact h) := rfl
  rw [e, List.getElem_map, List.getElem_range']
  have : 1 + 1 * k = k + 1 := by omega
  rw [this]
theorem xF_snoc (m f : Nat) : xF m f 0 ++ [dv] = xF (m + 1) f 0 := by
  unfold xF
  rw [List.range'_1_concat, List.map_append]
  show _ = _ :: (_ ++ [if f ≤ 1 + m ∧ 1 + m < 0 then dq else dv])
  rw [if_neg (by omega)]
  rfl
theorem xF_host (m f i k : Nat) (h : k < (xF m f i).length) : (xF m f i)[k].host = -1 := by
  cases k with
  | zero => rfl
  | succ j =>
    rw [xF_at m f i j (by rw [xF_len] at h; omega)]
    split <;> rfl
theorem QF_mem {m u k : Nat} (h : k ∈ QF m u) : u = 0 ∧ 1 ≤ k ∧ k ≤ m := by
  unfold QF at h
  by_cases c : u = 0
  · rw [if_pos c, List.mem_range'_1] at h
    exact ⟨c, by omega, by omega⟩
  · rw [if_neg c] at h; cases h
theorem QF_succ (m : Nat) : updR (QF m) 0 (QF m 0 ++ [m + 1]) = QF (m + 1) := by
  funext j
  unfold updR QF
  by_cases c : j = 0
  · subst c
    rw [if_pos rfl, if_pos rfl, if_pos rfl, List.range'_1_concat, Nat.add_comm 1 m]
  · rw [if_neg c, if_neg c, if_neg c]
theorem sound_dv : soundN ⟨1, divL, [], []⟩ = true ∧ soundA [⟨idL, [113]⟩] = true ∧ soundN ⟨1, [98], [], [⟨idL, [114]⟩]⟩ = true := ⟨by decide +kernel, by decide +kernel, by decide +kernel⟩
section
variable {K : Nat → Prop} {w : World} {p m f : Nat}
theorem first_make (h : Dq 300 K w p (xF m f 0) (QF m)) (hm : m < 100) :
    Calls Try.prog 7 #[.pointer (some ⟨p, 0, none⟩), nodeV 1 ⟨#[100, 105, 118]⟩ ⟨#[]⟩ none 0 0 rest0] w fun e w' => e = .returned (.tuple #[.int .i64 ((m + 1 : Nat) : Int), .int .u16 0]) ∧ Dq 300 K w' p (xF (m + 1) f 0) (QF m) ∧ Kept K w w' := by
  have r := h.makeA 1 ⟨#[100, 105, 118]⟩ ⟨#[]⟩ [] none 0 0 rest0 divL [] (lisQ divL) (by rw [ByteArray.toList_eq]) rfl (by decide) (AtsAt.nil _ _ _) (fun x hx => by cases hx) sound_dv.1 (by decide) (by unfold QF; rw [xF_len, if_neg (by omega)]) (by rw [xF_len]; omega) (fun h => absurd h (by decide))
  rw [xF_len] at r
  rw [← xF_snoc]
  exact r
theorem first_ins (h : Dq 300 K w p (xF (m + 1) f 0) (QF m)) :
    Calls Try.prog 8 #[.pointer (some ⟨p, 0, none⟩), .int .i64 0, .int .i64 ((m + 1 : Nat) : Int), .int .i64 (-1)] w fun e w' => e = .returned (.int .u16 0) ∧ Dq 300 K w' p (xF (m + 1) f 0) (QF (m + 1)) ∧ Kept K w w' := by
  have hl := xF_len (m + 1) f 0
  have e2 : ∀ hh, (xF (m + 1) f 0)[m + 1]'hh = dv := fun hh => by rw [xF_at _ _ _ m (by omega), if_neg (by omega)]
  have r := h.ins 0 (m + 1) (by omega) (by omega) (by omega) (by show holdB frag0.new = true; decide +kernel) (by omega) (by rw [e2]; show (1 : Nat) ≠ 5; decide) (by rw [e2]; show (1 : Nat) ≠ 4; decide) (fun u hu hm => by have := QF_mem hm; omega) (by unfold QF; rw [if_neg (by omega)]) (fun k hk => by rw [xF_host]; omega)
  rw [QF_succ] at r
  exact r
theorem xF_set (m f i : Nat) (hf : f ≤ i) (h1 : 1 ≤ i) (hi : i ≤ m) : (xF m f i).set i dq = xF m f (i + 1) := by
  refine List.ext_getElem (by rw [List.length_set, xF_len, xF_len]) fun k hk1 hk2 => ?_
  rw [List.getElem_set]
  cases k with
  | zero => rw [if_neg (by omega)]; rfl
  | succ j =>
    rw [xF_len] at hk2
    rw [xF_at m f i j (by omega) (by rw [xF_len]; omega), xF_at m f (i + 1) j (by omega)]
    by_cases c : i = j + 1
    · rw [if_pos c, if_pos (by omega)]
    · rw [if_neg c]
      by_cases d : f ≤ j + 1 ∧ j + 1 < i
      · rw [if_pos d, if_pos (by omega)]
      · rw [if_neg d, if_neg (by omega)]
theorem first_set {i : Nat} (hf : f ≤ i) (h1 : 1 ≤ i) (hi : i ≤ m) (h : Dq 300 K w p (xF m f i) (QF m)) :
    Calls Try.prog 9 #[.pointer (some ⟨p, 0, none⟩), .int .i64 (i : Int), .string ⟨#[105, 100]⟩, .string ⟨#[113]⟩] w fun e w' => e = .returned (.int .u16 0) ∧ Dq 300 K w' p (xF m f (i + 1)) (QF m) ∧ Kept K w w' := by
  have hl := xF_len m f i
  obtain ⟨j, rfl⟩ : ∃ j, i = j + 1 := ⟨i - 1, by omega⟩
  have e : ∀ hh, (xF m f (j + 1))[j + 1]'hh = dv := fun hh => by rw [xF_at _ _ _ j (by omega), if_neg (by omega)]
  have r := h.set (j + 1) ⟨#[105, 100]⟩ ⟨#[113]⟩ (by omega) (by rw [e]; rfl) (by rw [e]; rfl) [⟨idL, [113]⟩] (by rw [e, lisQ [105, 100], lisQ [113]]; rfl) sound_dv.2.1 (by rw [e]; intro x hx; cases hx) (by decide) (by decide)
  rw [e] at r
  have e2 : ({ dv with attrs := [⟨idL, [113]⟩] } : Nd) = dq := rfl
  rw [e2, xF_set m f (j + 1) hf h1 hi] at r
  exact r
end
/-- The nodes at the end. -/
def yF (m f : Nat) : List Nd := ((xF m f (m + 1)).set 1 { (if f ≤ 1 then dq else dv) with shadow := ((m + 1 : Nat) : Int) } ++ [rtN ⟨false, false, false, false, false⟩ 1]) ++ [bq]
theorem yF_len (m f : Nat) : (yF m f).length = m + 3 := by unfold yF; rw [List.length_append, List.length_append, List.length_set, xF_len]; rfl
theorem yF_at (m f k : Nat) (h1 : 1 ≤ k) (hk : k ≤ m) (h' : k < (yF m f).length) : (yF m f)[k].kind = 1 ∧ (yF m f)[k].attrs = (if f ≤ k then [⟨idL, [113]⟩] else []) ∧ (yF m f)[k].host = -1 := by
  obtain ⟨j, rfl⟩ : ∃ j, k = j + 1 := ⟨k - 1, by omega⟩
  unfold yF at h' ⊢
  rw [List.getElem_append_left (by rw [List.length_append, List.length_set, xF_len]; simp; omega), List.getElem_append_left (by rw [List.length_set, xF_len]; omega), List.getElem_set]
  by_cases c : 1 = j + 1
  · rw [if_pos c]
    have : j = 0 := by omega
    subst this
    by_cases d : f ≤ 1
    · rw [if_pos d, if_pos (by omega)]; exact ⟨rfl, rfl, rfl⟩
    · rw [if_neg d, if_neg (by omega)]; exact ⟨rfl, rfl, rfl⟩
  · rw [if_neg c, xF_at m f (m + 1) j (by omega)]
    by_cases d : f ≤ j + 1
    · rw [if_pos ⟨d, by omega⟩, if_pos d]; exact ⟨rfl, rfl, rfl⟩
    · rw [if_neg (fun h => d h.1), if_neg d]; exact ⟨rfl, rfl, rfl⟩
theorem yF_root (m f : Nat) (h' : m + 1 < (yF m f).length) : (yF m f)[m + 1] = rtN ⟨false, false, false, false, false⟩ 1 := by
  unfold yF at h' ⊢
  rw [List.getElem_append_left (by rw [List.length_append, List.length_set, xF_len]; simp), List.getElem_append_right (by rw [List.length_set, xF_len]; exact Nat.le_refl _)]
  simp [xF_len]
theorem yF_b (m f : Nat) (h' : m + 2 < (yF m f).length) : (yF m f)[m + 2] = bq := by
  unfold yF at h' ⊢
  rw [List.getElem_append_right (by rw [List.length_append, List.length_set, xF_len]; simp)]
  simp [xF_len]
theorem yF_0 (m f : Nat) (h' : 0 < (yF m f).length) : (yF m f)[0] = frag0.new := rfl
theorem rng_split (m f : Nat) (h1 : 1 ≤ f) (hf : f ≤ m) (P : Nat → Bool) (h : ∀ k, 1 ≤ k → k ≤ m → P k = decide (f ≤ k)) : (List.range' 1 m).filter P = List.range' f (m + 1 - f) := by
  have e : List.range' 1 m = List.range' 1 (f - 1) ++ List.range' f (m + 1 - f) := by
    have := List.range'_append_1 (s := 1) (m := f - 1) (n := m + 1 - f)
    rw [show 1 + (f - 1) = f by omega, show f - 1 + (m + 1 - f) = m by omega] at this
    exact this.symm
  rw [e, List.filter_append]
  have a : (List.range' 1 (f - 1)).filter P = [] := List.filter_eq_nil_iff.2 fun k hk => by
    rw [List.mem_range'_1] at hk
    rw [h k (by omega) (by omega), decide_eq_false (by omega)]; decide
  have b : (List.range' f (m + 1 - f)).filter P = List.range' f (m + 1 - f) := List.filter_eq_self.2 fun k hk => by
    rw [List.mem_range'_1] at hk
    rw [h k (by omega) (by omega), decide_eq_true (by omega)]
  rw [a, b, List.nil_append]
section
variable {M : Dm} {R G : Nat → List Nat} {rk : Nat → Nat}
theorem qL_leafs (hI : Inv M R G rk) {u : Nat} (hu : u < M.n) (Ks : List Nat) (hR : R u = Ks) (hl : ∀ k ∈ Ks, R k = []) (P : Nd → Bool) : qL M R P (u : Int) = Ks.filter fun k => P (M.nd k) := by
  rw [← drop_eq hI.good.only, trI_in hu, tr_eq hI.good.falls hu, hR, List.drop_succ_cons, List.drop_zero]
  have e : Ks.flatMap (tr M.n R) = Ks := by
    have hlt : ∀ k ∈ Ks, k < M.n := fun k hk => hI.good.wf.lt u hu k (by rw [hR]; exact hk)
    clear hR
    induction Ks with
    | nil => rfl
    | cons k r ih =>
      rw [List.flatMap_cons, ih (fun x hx => hl x (List.mem_cons_of_mem _ hx)) (fun x hx => hlt x (List.mem_cons_of_mem _ hx)), tr_eq hI.good.falls (hlt k (List.mem_cons_self ..)), hl k (List.mem_cons_self ..)]
      rfl
  rw [e]
end
end Go.Proofs.Ytojbjiopilkbgaa
