/-
  What the statements' own host makes.
-/
import Derived.Test.YtljnjdckhkglfaaYc
import Derived.Test.YtljnjdckhkglfaaYd
import Derived.Deep.LoopGhost
import Derived.Deep.Cut
import Derived.Deep.DeepCutAuto
import Derived.Deep.CutBlock
namespace Go.Proofs.Ytljnjdckhkglfaa
open Go.RowKit
set_option linter.unusedVariables false
theorem set_end {α : Type} (xs : List α) (x y : α) : (xs ++ [x]).set xs.length y = xs ++ [y] := by
  rw [List.set_append_right _ _ (Nat.le_refl _), Nat.sub_self]; rfl
theorem get_end {α : Type} (xs : List α) (x : α) (h : xs.length < (xs ++ [x]).length) : (xs ++ [x])[xs.length] = x := by
  rw [List.getElem_append_right (Nat.le_refl _)]; simp
section
variable {K : Nat → Prop} {w w' : World} {p : Nat} {A : List (List UInt8)} {B : List Nd} {xs : List Nd} {Q : Nat → List Nat}
theorem xsH_snoc (A : List (List UInt8)) (n : List UInt8) : xsH A [] ++ [slN1 n] = xsH (A ++ [n]) [] := by
  unfold xsH; simp
theorem xsH_more (A : List (List UInt8)) (B : List Nd) (x : Nd) : xsH A B ++ [x] = xsH A (B ++ [x]) := by
  unfold xsH; simp
theorem stH_slot (h : Dst K w p (xsH A []) (QH (List.range' 3 A.length) [])) (hA : A.length < 40) :
    Calls Try.prog 16 #[.pointer (some ⟨p, 0, none⟩), plainV 1 slotBB ⟨#[]⟩] w fun e w' => e = .returned (.tuple #[.int .i64 ((3 + A.length : Nat) : Int), .int .u16 0]) ∧ Dst K w' p (xsH A [] ++ [elD slotN]) (QH (List.range' 3 A.length) []) ∧ Kept K w w' := by
  have hl := xsH_len A []
  rw [List.length_nil, Nat.add_zero] at hl
  refine (h.make 1 1 slotBB ⟨#[]⟩ [115, 108, 111, 116] [] rfl slotBB_list empB_list sound_sl (by decide) (QH_far (by omega)) (by omega)).mono ?_
  rintro e w' ⟨rfl, h', hk⟩
  exact ⟨by rw [hl], h', hk⟩
theorem sound_name {t : Nat} (ht : t < 4) : soundL [⟨0, 1, slotN, [⟨nameN, nmQ t⟩], []⟩] = true ∧ soundA [⟨nameN, nmQ t⟩] = true := by
  rcases (show t = 0 ∨ t = 1 ∨ t = 2 ∨ t = 3 by omega) with rfl | rfl | rfl | rfl <;> exact ⟨by kernel_rfl, by kernel_rfl⟩
theorem sound_slotA {t : Nat} (ht : t < 4) : soundL [⟨0, 1, [98], [⟨slotN, nmQ t⟩], []⟩] = true ∧ soundA [⟨slotN, nmQ t⟩] = true := by
  rcases (show t = 0 ∨ t = 1 ∨ t = 2 ∨ t = 3 by omega) with rfl | rfl | rfl | rfl <;> exact ⟨by kernel_rfl, by kernel_rfl⟩
theorem nmB_size (t : Nat) : (nmB t).size ≤ 1000000000 := by
  unfold nmB
  split
  · decide
  · split
    · decide
    · split <;> decide
theorem stH_name (h : Dst K w p (xs ++ [elD slotN]) Q) {t : Nat} (ht : t < 4) {k : Nat} (hk : xs.length = k) :
    Calls Try.prog 14 #[.pointer (some ⟨p, 0, none⟩), .int .i64 (k : Int), .string nameBB, .string (nmB t)] w fun e w' => e = .returned (.int .u16 0) ∧ Dst K w' p (xs ++ [slN1 (nmQ t)]) Q ∧ Kept K w w' := by
  subst hk
  have hlt : xs.length < (xs ++ [elD slotN]).length := by simp
  have e := get_end xs (elD slotN) hlt
  refine (h.set xs.length nameBB (nmB t) hlt (by rw [e]; rfl) [⟨nameN, nmQ t⟩] (by rw [e, nmB_list, ByteArray.toList_eq]; rfl) (by rw [e]; exact (sound_name ht).1) (sound_name ht).2 (fun x hx => by rw [e] at hx; cases hx) (by decide) (nmB_size t)).mono ?_
  rintro e' w' ⟨rfl, h', hk⟩
  rw [e, set_end] at h'
  exact ⟨rfl, h', hk⟩
theorem stH_ask (h : Dst K w p (xs ++ [elD [98]]) Q) {t : Nat} (ht : t < 4) {k : Nat} (hk : xs.length = k) :
    Calls Try.prog 14 #[.pointer (some ⟨p, 0, none⟩), .int .i64 (k : Int), .string slotBB, .string (nmB t)] w fun e w' => e = .returned (.int .u16 0) ∧ Dst K w' p (xs ++ [kdE (nmQ t)]) Q ∧ Kept K w w' := by
  subst hk
  have hlt : xs.length < (xs ++ [elD [98]]).length := by simp
  have e := get_end xs (elD [98]) hlt
  refine (h.set xs.length slotBB (nmB t) hlt (by rw [e]; rfl) [⟨slotN, nmQ t⟩] (by rw [e, nmB_list, slotBB_list]; rfl) (by rw [e]; exact (sound_slotA ht).1) (sound_slotA ht).2 (fun x hx => by rw [e] at hx; cases hx) (by decide) (nmB_size t)).mono ?_
  rintro e' w' ⟨rfl, h', hk⟩
  rw [e, set_end] at h'
  exact ⟨rfl, h', hk⟩
theorem stH_in (n : List UInt8) (h : Dst K w p (xsH (A ++ [n]) []) (QH (List.range' 3 A.length) [])) :
    Calls Try.prog 17 #[.pointer (some ⟨p, 0, none⟩), .int .i64 2, .int .i64 ((3 + A.length : Nat) : Int), .int .i64 (-1)] w fun e w' => e = .returned (.int .u16 0) ∧ Dst K w' p (xsH (A ++ [n]) []) (QH (List.range' 3 (A ++ [n]).length) []) ∧ Kept K w w' := by
  have hl : (xsH (A ++ [n]) []).length = 3 + (A.length + 1) := by rw [xsH_len]; simp
  have e : (xsH (A ++ [n]) [])[3 + A.length]'(by omega) = slN1 n := by
    rw [xsH_s (by simp)]
    congr 1
    exact get_end A n (by simp)
  refine (h.ins 2 (3 + A.length) (by omega) (by omega) (by omega) (by rw [xsH_2]; rfl) (by omega) (by rw [e]; show (1 : Nat) ≠ 5; decide) (by rw [e]; show (1 : Nat) ≠ 4; decide) (fun u _ hm => ?_) (QH_far (by omega)) (fun k hk => by have := xsH_host (S := A ++ [n]) (T := []) (fun x hx => by cases hx) hk; omega)).mono ?_
  · rcases QH_mem hm with ⟨a, _⟩ | ⟨a, _⟩
    · rw [List.mem_range'_1] at a; omega
    · cases a
  rintro e' w' ⟨rfl, h', hk⟩
  rw [QH_slot, ← List.range'_1_concat] at h'
  rw [List.length_append]
  exact ⟨rfl, h', hk⟩
theorem stH_txt (h : Dst K w p (xsH A B) (QH (List.range' 3 A.length) (List.range' (3 + A.length) B.length))) (hA : A.length + B.length < 200) :
    Calls Try.prog 16 #[.pointer (some ⟨p, 0, none⟩), plainV 2 ⟨#[]⟩ ⟨#[120]⟩] w fun e w' => e = .returned (.tuple #[.int .i64 ((3 + A.length + B.length : Nat) : Int), .int .u16 0]) ∧ Dst K w' p (xsH A B ++ [txD [120]]) (QH (List.range' 3 A.length) (List.range' (3 + A.length) B.length)) ∧ Kept K w w' := by
  have hl := xsH_len A B
  refine (h.make 2 2 ⟨#[]⟩ ⟨#[120]⟩ [] [120] rfl empB_list xB_list sound_txt (by decide) (QH_far (by omega)) (by omega)).mono ?_
  rintro e w' ⟨rfl, h', hk⟩
  exact ⟨by rw [hl], h', hk⟩
theorem stH_el (h : Dst K w p (xsH A B) (QH (List.range' 3 A.length) (List.range' (3 + A.length) B.length))) (hA : A.length + B.length < 200) :
    Calls Try.prog 16 #[.pointer (some ⟨p, 0, none⟩), plainV 1 ⟨#[98]⟩ ⟨#[]⟩] w fun e w' => e = .returned (.tuple #[.int .i64 ((3 + A.length + B.length : Nat) : Int), .int .u16 0]) ∧ Dst K w' p (xsH A B ++ [elD [98]]) (QH (List.range' 3 A.length) (List.range' (3 + A.length) B.length)) ∧ Kept K w w' := by
  have hl := xsH_len A B
  refine (h.make 1 1 ⟨#[98]⟩ ⟨#[]⟩ [98] [] rfl (by rw [ByteArray.toList_eq]) empB_list (by kernel_rfl) (by decide) (QH_far (by omega)) (by omega)).mono ?_
  rintro e w' ⟨rfl, h', hk⟩
  exact ⟨by rw [hl], h', hk⟩
theorem stH_kin (hB : ∀ x ∈ B, KdOk x) {x : Nd} (hx : KdOk x) (h : Dst K w p (xsH A (B ++ [x])) (QH (List.range' 3 A.length) (List.range' (3 + A.length) B.length))) :
    Calls Try.prog 17 #[.pointer (some ⟨p, 0, none⟩), .int .i64 1, .int .i64 ((3 + A.length + B.length : Nat) : Int), .int .i64 (-1)] w fun e w' => e = .returned (.int .u16 0) ∧ Dst K w' p (xsH A (B ++ [x])) (QH (List.range' 3 A.length) (List.range' (3 + A.length) (B ++ [x]).length)) ∧ Kept K w w' := by
  have hl : (xsH A (B ++ [x])).length = 3 + A.length + (B.length + 1) := by rw [xsH_len]; simp
  have e : (xsH A (B ++ [x]))[3 + A.length + B.length]'(by omega) = x := by
    rw [xsH_t (by simp)]
    exact get_end B x (by simp)
  refine (h.ins 1 (3 + A.length + B.length) (by omega) (by omega) (by omega) (by rw [xsH_1]; rfl) (by omega) (by rw [e]; exact hx.k5) (by rw [e]; exact hx.k4) (fun u _ hm => ?_) (QH_far (by omega)) (fun k hk => ?_)).mono ?_
  · rcases QH_mem hm with ⟨a, _⟩ | ⟨a, _⟩ <;> (rw [List.mem_range'_1] at a; omega)
  · have := xsH_host (S := A) (T := B ++ [x]) (fun y hy => by
      rcases List.mem_append.1 hy with hy | hy
      · exact (hB y hy).host
      · rw [List.mem_singleton.1 hy]; exact hx.host) hk
    omega
  rintro e' w' ⟨rfl, h', hk⟩
  rw [QH_kid, ← List.range'_1_concat] at h'
  rw [List.length_append]
  exact ⟨rfl, h', hk⟩
theorem Dst.len (h : Dst K w p xs Q) : Calls Try.prog 23 #[.pointer (some ⟨p, 0, none⟩)] w fun e w' => e = .returned (.int .i64 (xs.length : Int)) ∧ w' = w := by
  obtain ⟨M, R, G, a, b⟩ := h
  obtain ⟨ga, cap, hY⟩ := a.d
  have := len_any p M.n cap ga w hY.c1
  rw [b.n] at this
  exact this
end
end Go.Proofs.Ytljnjdckhkglfaa
