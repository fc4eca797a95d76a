/-
  The tree's builder: endAhead.
-/
import Derived.Test.YtffllhohlfblnaaBM
import Derived.Deep.RegionWith
import Derived.Deep.DeepMust
namespace Go.Proofs.Ytffllhohlfblnaa
open Go.RowKit

theorem strs1 (X : World) (n : Nat) (a : List UInt8) (h0 : X.cell? ⟨n, 0, none⟩ = some (sv a)) (hn : n < X.heap.size) : StrsIn (fun k => k < X.heap.size) X (some ⟨n, 0, none⟩) [a] := by
  intro j hj
  have : j = 0 := by simp at hj; omega
  subst this
  exact ⟨n, rfl, hn, h0⟩
theorem strs2 (X : World) (n : Nat) (a b : List UInt8) (h0 : X.cell? ⟨n, 0, none⟩ = some (sv a)) (h1 : X.cell? ⟨n, 1, none⟩ = some (sv b)) (hn : n < X.heap.size) : StrsIn (fun k => k < X.heap.size) X (some ⟨n, 0, none⟩) [a, b] := by
  intro j hj
  have : j = 0 ∨ j = 1 := by simp at hj; omega
  rcases this with rfl | rfl
  · exact ⟨n, rfl, hn, h0⟩
  · exact ⟨n, rfl, hn, h1⟩

/-- The builder is as it was, and so are all blocks of K. -/
structure Nr (K : Nat → Prop) (p : Nat) (st : BS) (w X : World) : Prop where
  bx : BX K X p st
  kp : Kept K w X
theorem Nr.kept {K : Nat → Prop} {p : Nat} {st : BS} {w X Y : World} (h : Nr K p st w X) (hk : Kept (fun k => k < X.heap.size) X Y) : Nr K p st w Y := ⟨h.bx.kept hk, h.kp.trans (hk.mono h.bx.lt)⟩
theorem Nr.alloc {K : Nat → Prop} {p : Nat} {st : BS} {w X : World} (h : Nr K p st w X) (o : Obj) : Nr K p st w (X.alloc o) := h.kept ((Kept.refl _ X).alloc (fun _ h => h) o)
theorem Nr.drew {K : Nat → Prop} {p : Nat} {st : BS} {w X : World} (h : Nr K p st w X) : Nr K p st w X.drew := h.kept (Kept.refl _ X).drew

theorem Ans.alloc {w : World} {v : Value} {F : List UInt8 → Bool} (h : Ans w v F) (o : Obj) : Ans (w.alloc o) v F := h.kept ((Kept.refl _ w).alloc (fun _ h => h) o)
theorem Ans.drew {w : World} {v : Value} {F : List UInt8 → Bool} (h : Ans w v F) : Ans w.drew v F := h.kept (Kept.refl _ w).drew
theorem isIn_swap (A B : List (List UInt8)) (s : List UInt8) : (isIn A s || isIn B s) = isIn (B ++ A) s := by
  unfold isIn
  rw [List.any_append, Bool.or_comm]

set_option maxRecDepth 20000 in
set_option maxHeartbeats 1000000 in
theorem endAhead_li (K : Nat → Prop) (p : Nat) (st : BS) (w : World) (h : BX K w p st) (hl : st.opn.length ≤ 1000000) (kd : Nat) (aa : Option Addr) (an ac : Nat) (sf : Bool) (dt : List UInt8) (a : Nat) :
    Calls Try.prog 57 #[.pointer (some ⟨p, 0, none⟩), tokV kd [108, 105] aa an ac sf dt a] w fun e w' => e = .returned (.tuple #[]) ∧ BX K w' p (st.fin (isIn [[108, 105]]) (isIn ([[117, 108], [111, 108]] ++ boundL))) ∧ Kept K w w' := by
  obtain ⟨W, hW⟩ : ∃ W, w.alloc (.cells #[.int .u8 (kd : Int), sv [108, 105], .slice aa an ac, .bool sf, sv dt, .int .i64 (a : Int)] 43) = W := ⟨_, rfl⟩
  have HN1 : Hid (Nr K p st w W) := by rw [← hW]; exact Nr.alloc ⟨h, Kept.refl _ _⟩ _
  have HW : Hid (w.alloc (.cells #[.int .u8 (kd : Int), sv [108, 105], .slice aa an ac, .bool sf, sv dt, .int .i64 (a : Int)] 43) = W) := hW
  clear h hW
  go_enter Try.func57, Try.ntmps57
  go_upto_region 3 with fail
  rw [HW.out]
  clear HW
  go_region_with (first
    | (go_at_call 60
       go_must (refine (oneOf_is [[108, 105]] _ 1 _ (by decide) (by refine strs1 _ _ _ ?_ ?_ <;> (first | (simp; done) | (simp; omega) | (refine Nat.lt_of_lt_of_le ?_ k0.size; simp; done) | (refine Nat.lt_of_lt_of_le ?_ k0.size; simp; omega) | (refine (k0.cell ?_).trans ?_ <;> first | (simp; done) | (simp; omega))))).mono ?_)
       rintro e w2 ⟨⟨b1, rfl, o1⟩, k1⟩
       go_must (have HN2 : Hid (Nr K p st w w2) := Nr.kept (by repeat (first | exact HN1.out | refine Nr.drew ?_ | refine Nr.alloc ?_ _)) k1)
       have HO2 : Hid (Ans w2 (.func (.func 84) #[] #[.pointer (some ⟨b1, 0, none⟩)]) (isIn [[108, 105]])) := o1.ans
       clear o1)
    | (go_at_call 61
       go_must (refine (bounds_is [[117, 108], [111, 108]] _ 2 _ (by decide) (by refine strs2 _ _ _ _ ?_ ?_ ?_ <;> (first | (simp; done) | (simp; omega) | (refine Nat.lt_of_lt_of_le ?_ k1.size; simp; done) | (refine Nat.lt_of_lt_of_le ?_ k1.size; simp; omega) | (refine (k1.cell ?_).trans ?_ <;> first | (simp; done) | (simp; omega))))).mono ?_)
       rintro e w3 ⟨⟨f2, caps2, rfl, o2⟩, k2⟩
       go_must (have HN3 : Hid (Nr K p st w w3) := Nr.kept (by repeat (first | exact HN2.out | refine Nr.drew ?_ | refine Nr.alloc ?_ _)) k2)
       go_must (have HO3 : Hid (Ans w3 (.func (.func 84) #[] #[.pointer (some ⟨b1, 0, none⟩)]) (isIn [[108, 105]])) := Ans.kept (by repeat (first | exact HO2.out | refine Ans.drew ?_ | refine Ans.alloc ?_ _)) k2)
       have HB : Hid (Ans w3 (.func (.func f2) #[] caps2) (isIn ([[117, 108], [111, 108]] ++ boundL))) := o2.congr (isIn_swap boundL [[117, 108], [111, 108]])
       clear o2)
    | (go_at_call 59
       go_must (refine (end_any K p st _ HN3.out.bx hl _ _ _ _ HO3.out HB.out).mono ?_)
       rintro e w4 ⟨⟨la, cap, rfl, -, -⟩, hX4, hK4⟩
       have HX4 : Hid (BX K w4 p (st.fin (isIn [[108, 105]]) (isIn ([[117, 108], [111, 108]] ++ boundL)))) := hX4
       have HK4 : Hid (Kept K w w4) := HN3.out.kp.trans hK4
       clear hX4 hK4))
  all_goals
    clear HN1 HN2 HN3 HO2 HO3 HB k1 k2
    go_wp2
    go_end0
    exact ⟨rfl, HX4.out, HK4.out⟩

set_option maxRecDepth 20000 in
set_option maxHeartbeats 1000000 in
theorem endAhead_dd (K : Nat → Prop) (p : Nat) (st : BS) (w : World) (h : BX K w p st) (hl : st.opn.length ≤ 1000000) (kd : Nat) (aa : Option Addr) (an ac : Nat) (sf : Bool) (dt : List UInt8) (a : Nat) :
    Calls Try.prog 57 #[.pointer (some ⟨p, 0, none⟩), tokV kd [100, 100] aa an ac sf dt a] w fun e w' => e = .returned (.tuple #[]) ∧ BX K w' p (st.fin (isIn [[100, 100], [100, 116]]) (isIn ([[100, 108]] ++ boundL))) ∧ Kept K w w' := by
  obtain ⟨W, hW⟩ : ∃ W, w.alloc (.cells #[.int .u8 (kd : Int), sv [100, 100], .slice aa an ac, .bool sf, sv dt, .int .i64 (a : Int)] 43) = W := ⟨_, rfl⟩
  have HN1 : Hid (Nr K p st w W) := by rw [← hW]; exact Nr.alloc ⟨h, Kept.refl _ _⟩ _
  have HW : Hid (w.alloc (.cells #[.int .u8 (kd : Int), sv [100, 100], .slice aa an ac, .bool sf, sv dt, .int .i64 (a : Int)] 43) = W) := hW
  clear h hW
  go_enter Try.func57, Try.ntmps57
  go_upto_region 6 with fail
  rw [HW.out]
  clear HW
  go_region_with (first
    | (go_at_call 60
       go_must (refine (oneOf_is [[100, 100], [100, 116]] _ 2 _ (by decide) (by refine strs2 _ _ _ _ ?_ ?_ ?_ <;> (first | (simp; done) | (simp; omega) | (refine Nat.lt_of_lt_of_le ?_ k0.size; simp; done) | (refine Nat.lt_of_lt_of_le ?_ k0.size; simp; omega) | (refine (k0.cell ?_).trans ?_ <;> first | (simp; done) | (simp; omega))))).mono ?_)
       rintro e w2 ⟨⟨b1, rfl, o1⟩, k1⟩
       go_must (have HN2 : Hid (Nr K p st w w2) := Nr.kept (by repeat (first | exact HN1.out | refine Nr.drew ?_ | refine Nr.alloc ?_ _)) k1)
       have HO2 : Hid (Ans w2 (.func (.func 84) #[] #[.pointer (some ⟨b1, 0, none⟩)]) (isIn [[100, 100], [100, 116]])) := o1.ans
       clear o1)
    | (go_at_call 61
       go_must (refine (bounds_is [[100, 108]] _ 1 _ (by decide) (by refine strs1 _ _ _ ?_ ?_ <;> (first | (simp; done) | (simp; omega) | (refine Nat.lt_of_lt_of_le ?_ k1.size; simp; done) | (refine Nat.lt_of_lt_of_le ?_ k1.size; simp; omega) | (refine (k1.cell ?_).trans ?_ <;> first | (simp; done) | (simp; omega))))).mono ?_)
       rintro e w3 ⟨⟨f2, caps2, rfl, o2⟩, k2⟩
       go_must (have HN3 : Hid (Nr K p st w w3) := Nr.kept (by repeat (first | exact HN2.out | refine Nr.drew ?_ | refine Nr.alloc ?_ _)) k2)
       go_must (have HO3 : Hid (Ans w3 (.func (.func 84) #[] #[.pointer (some ⟨b1, 0, none⟩)]) (isIn [[100, 100], [100, 116]])) := Ans.kept (by repeat (first | exact HO2.out | refine Ans.drew ?_ | refine Ans.alloc ?_ _)) k2)
       have HB : Hid (Ans w3 (.func (.func f2) #[] caps2) (isIn ([[100, 108]] ++ boundL))) := o2.congr (isIn_swap boundL [[100, 108]])
       clear o2)
    | (go_at_call 59
       go_must (refine (end_any K p st _ HN3.out.bx hl _ _ _ _ HO3.out HB.out).mono ?_)
       rintro e w4 ⟨⟨la, cap, rfl, -, -⟩, hX4, hK4⟩
       have HX4 : Hid (BX K w4 p (st.fin (isIn [[100, 100], [100, 116]]) (isIn ([[100, 108]] ++ boundL)))) := hX4
       have HK4 : Hid (Kept K w w4) := HN3.out.kp.trans hK4
       clear hX4 hK4))
  all_goals
    clear HN1 HN2 HN3 HO2 HO3 HB k1 k2
    go_wp2
    go_end0
    exact ⟨rfl, HX4.out, HK4.out⟩

set_option maxRecDepth 20000 in
set_option maxHeartbeats 1000000 in
theorem endAhead_dt (K : Nat → Prop) (p : Nat) (st : BS) (w : World) (h : BX K w p st) (hl : st.opn.length ≤ 1000000) (kd : Nat) (aa : Option Addr) (an ac : Nat) (sf : Bool) (dt : List UInt8) (a : Nat) :
    Calls Try.prog 57 #[.pointer (some ⟨p, 0, none⟩), tokV kd [100, 116] aa an ac sf dt a] w fun e w' => e = .returned (.tuple #[]) ∧ BX K w' p (st.fin (isIn [[100, 100], [100, 116]]) (isIn ([[100, 108]] ++ boundL))) ∧ Kept K w w' := by
  obtain ⟨W, hW⟩ : ∃ W, w.alloc (.cells #[.int .u8 (kd : Int), sv [100, 116], .slice aa an ac, .bool sf, sv dt, .int .i64 (a : Int)] 43) = W := ⟨_, rfl⟩
  have HN1 : Hid (Nr K p st w W) := by rw [← hW]; exact Nr.alloc ⟨h, Kept.refl _ _⟩ _
  have HW : Hid (w.alloc (.cells #[.int .u8 (kd : Int), sv [100, 116], .slice aa an ac, .bool sf, sv dt, .int .i64 (a : Int)] 43) = W) := hW
  clear h hW
  go_enter Try.func57, Try.ntmps57
  go_upto_region 6 with fail
  rw [HW.out]
  clear HW
  go_region_with (first
    | (go_at_call 60
       go_must (refine (oneOf_is [[100, 100], [100, 116]] _ 2 _ (by decide) (by refine strs2 _ _ _ _ ?_ ?_ ?_ <;> (first | (simp; done) | (simp; omega) | (refine Nat.lt_of_lt_of_le ?_ k0.size; simp; done) | (refine Nat.lt_of_lt_of_le ?_ k0.size; simp; omega) | (refine (k0.cell ?_).trans ?_ <;> first | (simp; done) | (simp; omega))))).mono ?_)
       rintro e w2 ⟨⟨b1, rfl, o1⟩, k1⟩
       go_must (have HN2 : Hid (Nr K p st w w2) := Nr.kept (by repeat (first | exact HN1.out | refine Nr.drew ?_ | refine Nr.alloc ?_ _)) k1)
       have HO2 : Hid (Ans w2 (.func (.func 84) #[] #[.pointer (some ⟨b1, 0, none⟩)]) (isIn [[100, 100], [100, 116]])) := o1.ans
       clear o1)
    | (go_at_call 61
       go_must (refine (bounds_is [[100, 108]] _ 1 _ (by decide) (by refine strs1 _ _ _ ?_ ?_ <;> (first | (simp; done) | (simp; omega) | (refine Nat.lt_of_lt_of_le ?_ k1.size; simp; done) | (refine Nat.lt_of_lt_of_le ?_ k1.size; simp; omega) | (refine (k1.cell ?_).trans ?_ <;> first | (simp; done) | (simp; omega))))).mono ?_)
       rintro e w3 ⟨⟨f2, caps2, rfl, o2⟩, k2⟩
       go_must (have HN3 : Hid (Nr K p st w w3) := Nr.kept (by repeat (first | exact HN2.out | refine Nr.drew ?_ | refine Nr.alloc ?_ _)) k2)
       go_must (have HO3 : Hid (Ans w3 (.func (.func 84) #[] #[.pointer (some ⟨b1, 0, none⟩)]) (isIn [[100, 100], [100, 116]])) := Ans.kept (by repeat (first | exact HO2.out | refine Ans.drew ?_ | refine Ans.alloc ?_ _)) k2)
       have HB : Hid (Ans w3 (.func (.func f2) #[] caps2) (isIn ([[100, 108]] ++ boundL))) := o2.congr (isIn_swap boundL [[100, 108]])
       clear o2)
    | (go_at_call 59
       go_must (refine (end_any K p st _ HN3.out.bx hl _ _ _ _ HO3.out HB.out).mono ?_)
       rintro e w4 ⟨⟨la, cap, rfl, -, -⟩, hX4, hK4⟩
       have HX4 : Hid (BX K w4 p (st.fin (isIn [[100, 100], [100, 116]]) (isIn ([[100, 108]] ++ boundL)))) := hX4
       have HK4 : Hid (Kept K w w4) := HN3.out.kp.trans hK4
       clear hX4 hK4))
  all_goals
    clear HN1 HN2 HN3 HO2 HO3 HB k1 k2
    go_wp2
    go_end0
    exact ⟨rfl, HX4.out, HK4.out⟩

end Go.Proofs.Ytffllhohlfblnaa
