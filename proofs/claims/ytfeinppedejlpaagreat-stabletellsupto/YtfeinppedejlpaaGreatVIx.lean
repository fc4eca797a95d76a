/-
  strings.IndexRune at a rune above 127, in three signs below 128.
-/
import Derived.Test.YtfeinppedejlpaaGreatVB06
import Derived.Laws.Runes
import Derived.Laws.RangeAny
import Derived.Deep.LoopGhost
import Derived.Scope
namespace Go.Proofs.YtfeinppedejlpaaGreat
open Go.RowKit
set_option linter.unusedVariables false
set_option maxRecDepth 100000
set_option maxHeartbeats 8000000
abbrev cS3 : ByteArray := ⟨#[45, 62, 0]⟩
theorem zs4 (r : Int) (w : World) : Calls Tryz.prog 294 #[.int .i32 r] w fun e w' => e = .returned (.bool (validRune r)) /\ w' = w := by
 obtain ⟨b, hb⟩ : ∃ b, validRune r = b := ⟨_, rfl⟩
 have HB : Hid (validRune r = b) := hb
 rw [hb]
 clear hb
 go_enter Tryz.func294, Tryz.ntmps294
 rcases (show (r < 0) \/ (0 <= r /\ r < 55296) \/ (55296 <= r /\ r <= 57343) \/ (57343 < r /\ r <= 1114111) \/ 1114111 < r by omega) with h | ⟨h, h'⟩ | ⟨h, h'⟩ | ⟨h, h'⟩ | h
 all_goals (
  have hv := HB.out
  unfold validRune at hv)
 ·rw [decide_eq_false (by omega)] at hv
  subst hv
  have d1 : decide ((0 : Int) <= r) = false := decide_eq_false (by omega)
  have d2 : decide ((57343 : Int) < r) = false := decide_eq_false (by omega)
  go_wp2
  go_ret
  exact ⟨rfl, rfl⟩
 ·rw [decide_eq_true (by omega)] at hv
  subst hv
  have d1 : decide ((0 : Int) <= r) = true := decide_eq_true (by omega)
  have d2 : decide (r < 55296) = true := decide_eq_true (by omega)
  go_wp2
  go_ret
  exact ⟨rfl, rfl⟩
 ·rw [decide_eq_false (by omega)] at hv
  subst hv
  have d1 : decide ((0 : Int) <= r) = true := decide_eq_true (by omega)
  have d2 : decide (r < 55296) = false := decide_eq_false (by omega)
  have d3 : decide ((57343 : Int) < r) = false := decide_eq_false (by omega)
  go_wp2
  go_ret
  exact ⟨rfl, rfl⟩
 ·rw [decide_eq_true (by omega)] at hv
  subst hv
  have d1 : decide ((0 : Int) <= r) = true := decide_eq_true (by omega)
  have d2 : decide (r < 55296) = false := decide_eq_false (by omega)
  have d3 : decide ((57343 : Int) < r) = true := decide_eq_true (by omega)
  have d4 : decide (r <= 1114111) = true := decide_eq_true (by omega)
  go_wp2
  go_ret
  exact ⟨rfl, rfl⟩
 ·rw [decide_eq_false (by omega)] at hv
  subst hv
  have d1 : decide ((0 : Int) <= r) = true := decide_eq_true (by omega)
  have d2 : decide (r < 55296) = false := decide_eq_false (by omega)
  have d3 : decide ((57343 : Int) < r) = true := decide_eq_true (by omega)
  have d4 : decide (r <= 1114111) = false := decide_eq_false (by omega)
  go_wp2
  go_ret
  exact ⟨rfl, rfl⟩
theorem ztd (w : World) : Calls Tryz.prog 278 #[.string cS3, .int .i32 65533] w fun e w' => e = .returned (.int .i64 (-1)) /\ Kept (fun k => k < w.heap.size) w w' := by
 obtain ⟨s, hs⟩ : ∃ s, cS3 = s := ⟨_, rfl⟩
 have HS : Hid (cS3 = s) := hs
 have hz : s.size = 3 := by rw [<- hs]; rfl
 have HA : Hid (∀ i (h : i < s.size), (s[i]'h).toNat < 128) := by
  show ∀ i (h : i < s.size), (s[i]'h).toNat < 128
  rw [<- hs]
  intro i h
  have h : i < 3 := h
  match i, h with
  | 0, _ => exact (by decide : (45 : UInt8).toNat < 128)
  | 1, _ => exact (by decide : (62 : UInt8).toNat < 128)
  | 2, _ => exact (by decide : (0 : UInt8).toNat < 128)
 rw [hs]
 clear hs
 go_enter Tryz.func278, Tryz.ntmps278
 go_wp2_with fail
 go_loopg [5] 3 (fun g _ wx => ∃ i : Nat, i + g = 3 /\ wx = w.iter s i)
 case atStart => exact ⟨0, rfl, rfl⟩
 case round =>
  obtain ⟨i, hig, rfl⟩ := hrel
  by_cases hi : i < 3
  ·have hi' : i < s.size := by omega
   obtain ⟨x, hx⟩ : ∃ x : UInt8, s[i]'hi' = x := ⟨_, rfl⟩
   have hx1 := HA.out i hi'
   have hnx := fun ty => run_next_ascii (P := Tryz.prog) w s i ty hi' hx1
   rw [hx] at hnx hx1
   have hne : ((x.toNat : Int) == 65533) = false := by simp; omega
   clear hx
   go_wp2
   go_roundg (3 - (i + 1))
   case rel => exact ⟨i + 1, by omega, rfl⟩
   case measure => omega
  ·obtain rfl : i = 3 := by omega
   have hnx := run_next_end (P := Tryz.prog) w s 3
   rw [hz] at hnx
   go_wp2
   go_ret
   exact ⟨rfl, (Kept.refl _ w).alloc (fun _ h => h) _⟩
theorem zik : ∀ b ∈ cS3.data.toList, b.toNat < 128 := by decide
theorem zoy (r : Int) (h128 : 128 <= r) (hne : r ≠ 65533) (w : World) : Calls Tryz.prog 278 #[.string cS3, .int .i32 r] w fun e w' => e = .returned (.int .i64 (-1)) /\ Kept (fun k => k < w.heap.size) w w' := by
 have rv := zs4 r w
 have hib : ∀ a b c X, 128 <= (c : UInt8).toNat -> Calls Tryz.prog 255 #[.string (cS3.extract a b), .int .u8 (c.toNat : Int)] X fun e w' => e = .returned (.int .i64 (-1)) /\ w' = X := fun a b c X h => by
  have r1 := zbx (cS3.extract a b) (c.toNat : Int) X
  rw [Int.toNat_natCast, show c.toNat.toUInt8 = c by simp, firstIdx_ascii cS3 a b c zik h] at r1
  exact r1
 have d0 : decide (r < 128) = false := decide_eq_false (by omega)
 have d1 : decide ((0 : Int) <= r) = true := decide_eq_true (by omega)
 have d2 : (r == 65533) = false := by simpa using hne
 cases hv : validRune r with
 | false =>
  rw [hv] at rv
  clear hib hv hne h128
  go_enter Tryz.func278, Tryz.ntmps278
  go_wp2_with fail
  refine rv.mono ?_
  rintro e w1 ⟨rfl, rfl⟩
  go_wp2
  go_ret
  exact ⟨rfl, Kept.refl _ _⟩
 | true =>
  rw [hv] at rv
  obtain ⟨z1, z2, z3⟩ := encode_facts r (by rw [validRune_eq]; exact hv) h128
  obtain ⟨B, hB⟩ : ∃ B, Utf8.encode r = B := ⟨_, rfl⟩
  have HB : Hid (Utf8.encode r = B) := hB
  rw [hB] at z1 z2 z3
  have hn : B.size = 2 \/ B.size = 3 \/ B.size = 4 := by omega
  obtain ⟨S, hS⟩ : ∃ S, cS3 = S := ⟨_, rfl⟩
  have hS3 : S.size = 3 := by rw [<- hS]; rfl
  have s1 : ∀ h : 1 < S.size, S[1]'h = 62 := by rw [<- hS]; intro h; rfl
  have s2 : ∀ h : 2 < S.size, S[2]'h = 0 := by rw [<- hS]; intro h; rfl
  have s1' := s1 (by omega)
  have s2' := s2 (by omega)
  rw [hS] at hib ⊢
  clear hS z1 z2 hB s1 s2 hne h128
  rcases hn with hn | hn | hn
  ·have z4 : 128 <= (B[1]'(by omega)).toNat := by have := z3 (by omega); simpa [hn] using this
   obtain ⟨lb, hlb⟩ : ∃ x : UInt8, B[1]'(by omega) = x := ⟨_, rfl⟩
   rw [hlb] at z4
   have e1 : ((62 : Int) == (lb.toNat : Int)) = false := by simp; omega
   have hb1 := fun X => hib 2 3 lb X z4
   have hw2 : IntKind.i64.wrap 2 = 2 := by decide
   clear hib z3 z4
   go_enter Tryz.func278, Tryz.ntmps278
   go_wp2_with (go_at_call 294; refine rv.mono ?_; rintro e1 w3 ⟨rfl, hw3⟩; replace hw3 := hw3.symm; subst hw3)
   refine wp_scope_straight ?_
   go_upto_region 2 with fail
   rw [HB.out]
   clear HB rv
   go_wp2_with fail
   go_loopg [9] 1 (fun g v9 wr => g = 1 /\ v9 = .int .i64 1 /\ wr = w)
   case atStart => exact ⟨rfl, rfl, rfl⟩
   case round =>
    obtain ⟨rfl, rfl, hwr⟩ := hrel
    have HWR : Hid (wr = w) := hwr
    clear hwr
    go_wp2_with fail
    refine wp_scope_straight ?_
    go_wp2_with fail
    go_quiet (fail)
    obtain ⟨Y, hY⟩ : ∃ Y, wr.drewN nq = Y := ⟨_, rfl⟩
    rw [hY]
    have HY : Hid (wr.drewN nq = Y) := hY
    clear hY
    go_wp2_with fail
    go_quiet ((go_at_call 255; exact Calls.quiet_of_same (hb1 _)))
    go_wp2
    simp only [Exit.noGoto, Exit.inBlock, Exit.then]
    go_ret
    refine ⟨rfl, ?_⟩
    show Kept (fun k => k < w.heap.size) w _
    rw [<- HY.out, HWR.out]
    exact ((Kept.refl _ w).drewN _).drewN _
  ·have z4 : 128 <= (B[2]'(by omega)).toNat := by have := z3 (by omega); simpa [hn] using this
   obtain ⟨lb, hlb⟩ : ∃ x : UInt8, B[2]'(by omega) = x := ⟨_, rfl⟩
   rw [hlb] at z4
   have e1 : ((0 : Int) == (lb.toNat : Int)) = false := by simp; omega
   have hb1 := fun X => hib 3 3 lb X z4
   rw [show S.extract 3 3 = ByteArray.empty by simp] at hb1
   have hw2 : IntKind.i64.wrap 3 = 3 := by decide
   clear hib z3 z4
   go_enter Tryz.func278, Tryz.ntmps278
   go_wp2_with (go_at_call 294; refine rv.mono ?_; rintro e1 w3 ⟨rfl, hw3⟩; replace hw3 := hw3.symm; subst hw3)
   refine wp_scope_straight ?_
   go_upto_region 2 with fail
   rw [HB.out]
   clear HB rv
   go_wp2_with fail
   go_loopg [9] 1 (fun g v9 wr => g = 1 /\ v9 = .int .i64 2 /\ wr = w)
   case atStart => exact ⟨rfl, rfl, rfl⟩
   case round =>
    obtain ⟨rfl, rfl, hwr⟩ := hrel
    have HWR : Hid (wr = w) := hwr
    clear hwr
    go_wp2_with fail
    refine wp_scope_straight ?_
    go_wp2_with fail
    go_quiet (fail)
    obtain ⟨Y, hY⟩ : ∃ Y, wr.drewN nq = Y := ⟨_, rfl⟩
    rw [hY]
    have HY : Hid (wr.drewN nq = Y) := hY
    clear hY
    go_wp2_with fail
    go_quiet ((go_at_call 255; exact Calls.quiet_of_same (hb1 _)))
    go_wp2
    simp only [Exit.noGoto, Exit.inBlock, Exit.then]
    go_ret
    refine ⟨rfl, ?_⟩
    show Kept (fun k => k < w.heap.size) w _
    rw [<- HY.out, HWR.out]
    exact ((Kept.refl _ w).drewN _).drewN _
  ·clear hib z3
   go_enter Tryz.func278, Tryz.ntmps278
   go_wp2_with (go_at_call 294; refine rv.mono ?_; rintro e1 w3 ⟨rfl, hw3⟩; replace hw3 := hw3.symm; subst hw3)
   refine wp_scope_straight ?_
   go_upto_region 2 with fail
   rw [HB.out]
   clear HB rv
   go_wp2_with fail
   go_loopg [9] 1 (fun g v9 wr => g = 1 /\ v9 = .int .i64 3 /\ wr = w)
   case atStart => exact ⟨rfl, rfl, rfl⟩
   case round =>
    obtain ⟨rfl, rfl, hwr⟩ := hrel
    have HWR : Hid (wr = w) := hwr
    clear hwr
    go_wp2
    simp only [Exit.noGoto, Exit.inBlock]
    go_ret
    exact ⟨rfl, by show Kept (fun k => k < w.heap.size) w _; rw [HWR.out]; exact Kept.refl _ _⟩
end Go.Proofs.YtfeinppedejlpaaGreat
