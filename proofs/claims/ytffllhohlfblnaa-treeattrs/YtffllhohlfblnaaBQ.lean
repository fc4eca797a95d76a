/-
  The tree's builder: endAhead, its other cases.
-/
import Derived.Test.YtffllhohlfblnaaBN
import Derived.Deep.RegionHeld3
namespace Go.Proofs.Ytffllhohlfblnaa
open Go.RowKit

theorem seekR_lt (so ba : List UInt8 → Bool) : ∀ (l : List (List UInt8)) (k : Nat), seekR so ba l = some k → k < l.length
  | [], k, h => by cases h
  | x :: r, k, h => by
    unfold seekR at h
    split at h
    · injection h with h
      subst h
      simp
    · split at h
      · cases h
      · have := seekR_lt so ba r k h
        simp only [List.length_cons]
        omega
theorem seek_lt {so ba : List UInt8 → Bool} {l : List (List UInt8)} {k : Nat} (h : seek so ba l = some k) : k < l.length := by
  have := seekR_lt so ba l.reverse k h
  rwa [List.length_reverse] at this
theorem finF_eq (b : BS) (so ba : List UInt8 → Bool) (a : Nat) : (if (endedL b.opn (seek so ba b.opn)).length = 0 then b.fin so ba else (b.fin so ba).flt 9 a) = b.finF so ba a := by
  unfold BS.finF
  cases h : seek so ba b.opn with
  | none =>
    have e : (endedL b.opn none).length = 0 := rfl
    rw [if_pos e]
    unfold BS.fin
    rw [h]
    rfl
  | some k =>
    have hk := seek_lt h
    have : (endedL b.opn (some k)).length ≠ 0 := by
      show (b.opn.drop k).length ≠ 0
      rw [List.length_drop]
      omega
    rw [if_neg this]
    rfl
theorem fin_opn (b : BS) (so ba : List UInt8 → Bool) : (b.fin so ba).opn.length ≤ b.opn.length ∧ (b.fin so ba).flts = b.flts ∧ (b.fin so ba).items = b.items := by
  unfold BS.fin
  cases seek so ba b.opn with
  | none => exact ⟨Nat.le_refl _, rfl, rfl⟩
  | some k =>
    refine ⟨?_, rfl, rfl⟩
    show (b.opn.take k).length ≤ _
    rw [List.length_take]
    omega
theorem ended_len (l : List (List UInt8)) (q : Option Nat) : (endedL l q).length ≤ l.length := by
  cases q with
  | none => exact Nat.zero_le _
  | some k =>
    show (l.drop k).length ≤ _
    rw [List.length_drop]
    omega

set_option maxRecDepth 20000 in
set_option maxHeartbeats 1000000 in
theorem endAhead_option (K : Nat → Prop) (p : Nat) (st : BS) (w : World) (h : BX K w p st) (hl : st.opn.length ≤ 1000000) (kd : Nat) (aa : Option Addr) (an ac : Nat) (sf : Bool) (dt : List UInt8) (a : Nat) :
    Calls Try.prog 57 #[.pointer (some ⟨p, 0, none⟩), tokV kd [111, 112, 116, 105, 111, 110] aa an ac sf dt a] w fun e w' => e = .returned (.tuple #[]) ∧ BX K w' p (st.fin (isIn [[111, 112, 116, 105, 111, 110]]) anyN) ∧ Kept K w w' := by
  obtain ⟨W, hW⟩ : ∃ W, w.alloc (.cells #[.int .u8 (kd : Int), sv [111, 112, 116, 105, 111, 110], .slice aa an ac, .bool sf, sv dt, .int .i64 (a : Int)] 43) = W := ⟨_, rfl⟩
  have HN1 : Hid (Nr K p st w W) := by rw [← hW]; exact Nr.alloc ⟨h, Kept.refl _ _⟩ _
  have HW : Hid (w.alloc (.cells #[.int .u8 (kd : Int), sv [111, 112, 116, 105, 111, 110], .slice aa an ac, .bool sf, sv dt, .int .i64 (a : Int)] 43) = W) := hW
  clear h hW
  go_enter Try.func57, Try.ntmps57
  go_upto_region 8 with fail
  rw [HW.out]
  clear HW
  go_region_with (first
    | (go_at_call 60
       go_must (refine (oneOf_is [[111, 112, 116, 105, 111, 110]] _ 1 _ (by decide) (by refine strs1 _ _ _ ?_ ?_ <;> (first | (simp; done) | (simp; omega) | (refine Nat.lt_of_lt_of_le ?_ k0.size; simp; done) | (refine Nat.lt_of_lt_of_le ?_ k0.size; simp; omega) | (refine (k0.cell ?_).trans ?_ <;> first | (simp; done) | (simp; omega))))).mono ?_)
       rintro e w2 ⟨⟨b1, rfl, o1⟩, k1⟩
       go_must (have HN2 : Hid (Nr K p st w w2) := Nr.kept (by repeat (first | exact HN1.out | refine Nr.drew ?_ | refine Nr.alloc ?_ _)) k1)
       have HO2 : Hid (Ans w2 (.func (.func 84) #[] #[.pointer (some ⟨b1, 0, none⟩)]) (isIn [[111, 112, 116, 105, 111, 110]])) := o1.ans
       clear o1)
    | (go_at_call 80
       go_must (refine (endTop_any K p st _ HN2.out.bx (by have := (fin_opn st (isIn [[111, 112, 116, 105, 111, 110]]) anyN).1; omega) (isIn [[111, 112, 116, 105, 111, 110]]) 84 _ HO2.out).mono ?_)
       rintro e w3 ⟨⟨la2, cap2, rfl, -, -⟩, hX4, hK4⟩
       have HN3 : Hid (Nr K p (st.fin (isIn [[111, 112, 116, 105, 111, 110]]) anyN) w w3) := ⟨hX4, HN2.out.kp.trans hK4⟩
       clear hX4 hK4))
  all_goals
    clear HN1 HN2 HO2 k1
    go_wp2
    go_end0
    exact ⟨rfl, HN3.out.bx, HN3.out.kp⟩

set_option maxRecDepth 20000 in
set_option maxHeartbeats 1000000 in
theorem endAhead_optgroup (K : Nat → Prop) (p : Nat) (st : BS) (w : World) (h : BX K w p st) (hl : st.opn.length ≤ 1000000) (kd : Nat) (aa : Option Addr) (an ac : Nat) (sf : Bool) (dt : List UInt8) (a : Nat) :
    Calls Try.prog 57 #[.pointer (some ⟨p, 0, none⟩), tokV kd [111, 112, 116, 103, 114, 111, 117, 112] aa an ac sf dt a] w fun e w' => e = .returned (.tuple #[]) ∧ BX K w' p ((st.fin (isIn [[111, 112, 116, 105, 111, 110]]) anyN).fin (isIn [[111, 112, 116, 103, 114, 111, 117, 112]]) anyN) ∧ Kept K w w' := by
  obtain ⟨W, hW⟩ : ∃ W, w.alloc (.cells #[.int .u8 (kd : Int), sv [111, 112, 116, 103, 114, 111, 117, 112], .slice aa an ac, .bool sf, sv dt, .int .i64 (a : Int)] 43) = W := ⟨_, rfl⟩
  have HN1 : Hid (Nr K p st w W) := by rw [← hW]; exact Nr.alloc ⟨h, Kept.refl _ _⟩ _
  have HW : Hid (w.alloc (.cells #[.int .u8 (kd : Int), sv [111, 112, 116, 103, 114, 111, 117, 112], .slice aa an ac, .bool sf, sv dt, .int .i64 (a : Int)] 43) = W) := hW
  clear h hW
  go_enter Try.func57, Try.ntmps57
  go_upto_region 10 with fail
  rw [HW.out]
  clear HW
  go_region_with (first
    | (go_at_call 60
       go_must (refine (oneOf_is [[111, 112, 116, 105, 111, 110]] _ 1 _ (by decide) (by refine strs1 _ _ _ ?_ ?_ <;> (first | (simp; done) | (simp; omega) | (refine Nat.lt_of_lt_of_le ?_ k0.size; simp; done) | (refine Nat.lt_of_lt_of_le ?_ k0.size; simp; omega) | (refine (k0.cell ?_).trans ?_ <;> first | (simp; done) | (simp; omega))))).mono ?_)
       rintro e w2 ⟨⟨b1, rfl, o1⟩, k1⟩
       go_must (have HN2 : Hid (Nr K p st w w2) := Nr.kept (by repeat (first | exact HN1.out | refine Nr.drew ?_ | refine Nr.alloc ?_ _)) k1)
       have HO2 : Hid (Ans w2 (.func (.func 84) #[] #[.pointer (some ⟨b1, 0, none⟩)]) (isIn [[111, 112, 116, 105, 111, 110]])) := o1.ans
       clear o1)
    | (go_at_call 80
       go_must (refine (endTop_any K p st _ HN2.out.bx (by have := (fin_opn st (isIn [[111, 112, 116, 105, 111, 110]]) anyN).1; omega) (isIn [[111, 112, 116, 105, 111, 110]]) 84 _ HO2.out).mono ?_)
       rintro e w3 ⟨⟨la2, cap2, rfl, -, -⟩, hX4, hK4⟩
       have HN3 : Hid (Nr K p (st.fin (isIn [[111, 112, 116, 105, 111, 110]]) anyN) w w3) := ⟨hX4, HN2.out.kp.trans hK4⟩
       clear hX4 hK4))
  clear HN1 HN2 HO2 k1
  go_upto_region 11 with fail
  go_region_with (first
    | (go_at_call 60
       go_must (refine (oneOf_is [[111, 112, 116, 103, 114, 111, 117, 112]] _ 1 _ (by decide) (by refine strs1 _ _ _ ?_ ?_ <;> (first | (simp; done) | (simp; omega) | (refine Nat.lt_of_lt_of_le ?_ k0.size; simp; done) | (refine Nat.lt_of_lt_of_le ?_ k0.size; simp; omega) | (refine (k0.cell ?_).trans ?_ <;> first | (simp; done) | (simp; omega))))).mono ?_)
       rintro e w4 ⟨⟨b3, rfl, o1⟩, k3⟩
       go_must (have HN4 : Hid (Nr K p (st.fin (isIn [[111, 112, 116, 105, 111, 110]]) anyN) w w4) := Nr.kept (by repeat (first | exact HN3.out | refine Nr.drew ?_ | refine Nr.alloc ?_ _)) k3)
       have HO4 : Hid (Ans w4 (.func (.func 84) #[] #[.pointer (some ⟨b3, 0, none⟩)]) (isIn [[111, 112, 116, 103, 114, 111, 117, 112]])) := o1.ans
       clear o1)
    | (go_at_call 80
       go_must (refine (endTop_any K p (st.fin (isIn [[111, 112, 116, 105, 111, 110]]) anyN) _ HN4.out.bx (by have := (fin_opn st (isIn [[111, 112, 116, 105, 111, 110]]) anyN).1; omega) (isIn [[111, 112, 116, 103, 114, 111, 117, 112]]) 84 _ HO4.out).mono ?_)
       rintro e w5 ⟨⟨la4, cap4, rfl, -, -⟩, hX4, hK4⟩
       have HN5 : Hid (Nr K p ((st.fin (isIn [[111, 112, 116, 105, 111, 110]]) anyN).fin (isIn [[111, 112, 116, 103, 114, 111, 117, 112]]) anyN) w w5) := ⟨hX4, HN4.out.kp.trans hK4⟩
       clear hX4 hK4))
  all_goals
    clear HN3 HN4 HO4 k3
    go_wp2
    go_end0
    exact ⟨rfl, HN5.out.bx, HN5.out.kp⟩

set_option maxRecDepth 20000 in
set_option maxHeartbeats 1000000 in
theorem endAhead_h1 (K : Nat → Prop) (p : Nat) (st : BS) (w : World) (h : BX K w p st) (hl : st.opn.length ≤ 1000000) (hn : st.flts.length ≤ 1000000) (kd : Nat) (aa : Option Addr) (an ac : Nat) (sf : Bool) (dt : List UInt8) (a : Nat) :
    Calls Try.prog 57 #[.pointer (some ⟨p, 0, none⟩), tokV kd [104, 49] aa an ac sf dt a] w fun e w' => e = .returned (.tuple #[]) ∧ BX K w' p (st.finF (isIn headL) anyN a) ∧ Kept K w w' := by
  obtain ⟨W, hW⟩ : ∃ W, w.alloc (.cells #[.int .u8 (kd : Int), sv [104, 49], .slice aa an ac, .bool sf, sv dt, .int .i64 (a : Int)] 43) = W := ⟨_, rfl⟩
  obtain ⟨d, hd⟩ : ∃ d, w.heap.size = d := ⟨_, rfl⟩
  have kW : Kept (fun k => k < w.heap.size) w W := by rw [← hW]; exact (Kept.refl _ w).alloc (fun _ h => h) _
  have sW : W.heap.size = d + 1 := by rw [← hW, ← hd]; simp
  have hcW : ∀ i u, #[.int .u8 (kd : Int), sv [104, 49], .slice aa an ac, .bool sf, sv dt, .int .i64 (a : Int)].toList[i]? = some u → W.cell? ⟨d, i, none⟩ = some u := by
    intro i u hi
    rw [← hW, ← hd, cell_block (heap_alloc_new w _), ← Array.getElem?_toList]
    exact hi
  have HN1 : Hid (Nr (fun k => K k ∨ k = d) p st W W) := by
    refine ⟨h.more kW ?_ ?_, Kept.refl _ _⟩
    · rintro k (hk | rfl)
      · exact .inl hk
      · exact .inr (by omega)
    · rintro k (hk | rfl)
      · have := h.lt k hk; omega
      · omega
  have HK1 : Hid (Kept K w W) := kW.mono h.lt
  have HC : Hid (∀ i u, #[.int .u8 (kd : Int), sv [104, 49], .slice aa an ac, .bool sf, sv dt, .int .i64 (a : Int)].toList[i]? = some u → W.cell? ⟨d, i, none⟩ = some u) := hcW
  have HW : Hid (w.alloc (.cells #[.int .u8 (kd : Int), sv [104, 49], .slice aa an ac, .bool sf, sv dt, .int .i64 (a : Int)] 43) = W) := hW
  have HD : Hid (w.heap.size = d) := hd
  have t0 := hcW 0 _ rfl
  have t1 := hcW 1 _ rfl
  have t2 := hcW 2 _ rfl
  have t3 := hcW 3 _ rfl
  have t4 := hcW 4 _ rfl
  have t5 := hcW 5 _ rfl
  clear h hW hd kW sW hcW
  go_enter Try.func57, Try.ntmps57
  go_upto_region 18 with fail
  rw [HW.out, HD.out]
  clear HW HD
  go_region_with (first
    | (go_at_call 80
       go_must (refine (endTop_any (fun k => K k ∨ k = d) p st _ (by repeat (first | exact HN1.out.bx | refine BX.drew ?_ | refine BX.alloc ?_ _)) hl (isIn headL) 82 #[] (Ans.heads _)).mono ?_)
       rintro e w2 ⟨⟨la, cap, rfl, -, -⟩, hX4, hK4⟩
       go_must (have HNE : Hid (Nr (fun k => K k ∨ k = d) p (st.fin (isIn headL) anyN) W w2) := ⟨hX4, Kept.trans (by first | exact HN1.out.kp | exact HN1.out.kp.drew) hK4⟩)
       have t0w2 : w2.cell? ⟨d, 0, none⟩ = _ := (HNE.out.kp.cell (p := ⟨d, 0, none⟩) (.inr rfl)).trans (HC.out 0 _ rfl)
       have t1w2 : w2.cell? ⟨d, 1, none⟩ = _ := (HNE.out.kp.cell (p := ⟨d, 1, none⟩) (.inr rfl)).trans (HC.out 1 _ rfl)
       have t2w2 : w2.cell? ⟨d, 2, none⟩ = _ := (HNE.out.kp.cell (p := ⟨d, 2, none⟩) (.inr rfl)).trans (HC.out 2 _ rfl)
       have t3w2 : w2.cell? ⟨d, 3, none⟩ = _ := (HNE.out.kp.cell (p := ⟨d, 3, none⟩) (.inr rfl)).trans (HC.out 3 _ rfl)
       have t4w2 : w2.cell? ⟨d, 4, none⟩ = _ := (HNE.out.kp.cell (p := ⟨d, 4, none⟩) (.inr rfl)).trans (HC.out 4 _ rfl)
       have t5w2 : w2.cell? ⟨d, 5, none⟩ = _ := (HNE.out.kp.cell (p := ⟨d, 5, none⟩) (.inr rfl)).trans (HC.out 5 _ rfl)
       clear hX4 hK4)
    | (go_at_call 81
       go_must (refine (faultClosed_any (fun k => K k ∨ k = d) p (st.fin (isIn headL) anyN) _ (by repeat (first | exact HNE.out.bx | refine BX.drew ?_ | refine BX.alloc ?_ _)) (by rw [(fin_opn st (isIn headL) anyN).2.1]; exact hn) kd [104, 49] aa an ac sf dt a _ _ _ (Nat.le_trans (ended_len _ _) hl)).mono ?_)
       rintro e w9 ⟨rfl, hX9, hK9⟩
       rw [finF_eq] at hX9
       have HX9 : Hid (BX K w9 p (st.finF (isIn headL) anyN a)) := hX9.weaken fun _ h => .inl h
       have HK9 : Hid (Kept K w w9) := HK1.out.trans ((HNE.out.kp.mono fun _ h => .inl h).trans (hK9.mono fun _ h => .inl h))
       clear hX9 hK9))
  all_goals
    clear HN1 HNE HC
    go_wp2
    go_end0
    exact ⟨rfl, HX9.out, HK9.out⟩

set_option maxRecDepth 20000 in
set_option maxHeartbeats 1000000 in
theorem endAhead_h2 (K : Nat → Prop) (p : Nat) (st : BS) (w : World) (h : BX K w p st) (hl : st.opn.length ≤ 1000000) (hn : st.flts.length ≤ 1000000) (kd : Nat) (aa : Option Addr) (an ac : Nat) (sf : Bool) (dt : List UInt8) (a : Nat) :
    Calls Try.prog 57 #[.pointer (some ⟨p, 0, none⟩), tokV kd [104, 50] aa an ac sf dt a] w fun e w' => e = .returned (.tuple #[]) ∧ BX K w' p (st.finF (isIn headL) anyN a) ∧ Kept K w w' := by
  obtain ⟨W, hW⟩ : ∃ W, w.alloc (.cells #[.int .u8 (kd : Int), sv [104, 50], .slice aa an ac, .bool sf, sv dt, .int .i64 (a : Int)] 43) = W := ⟨_, rfl⟩
  obtain ⟨d, hd⟩ : ∃ d, w.heap.size = d := ⟨_, rfl⟩
  have kW : Kept (fun k => k < w.heap.size) w W := by rw [← hW]; exact (Kept.refl _ w).alloc (fun _ h => h) _
  have sW : W.heap.size = d + 1 := by rw [← hW, ← hd]; simp
  have hcW : ∀ i u, #[.int .u8 (kd : Int), sv [104, 50], .slice aa an ac, .bool sf, sv dt, .int .i64 (a : Int)].toList[i]? = some u → W.cell? ⟨d, i, none⟩ = some u := by
    intro i u hi
    rw [← hW, ← hd, cell_block (heap_alloc_new w _), ← Array.getElem?_toList]
    exact hi
  have HN1 : Hid (Nr (fun k => K k ∨ k = d) p st W W) := by
    refine ⟨h.more kW ?_ ?_, Kept.refl _ _⟩
    · rintro k (hk | rfl)
      · exact .inl hk
      · exact .inr (by omega)
    · rintro k (hk | rfl)
      · have := h.lt k hk; omega
      · omega
  have HK1 : Hid (Kept K w W) := kW.mono h.lt
  have HC : Hid (∀ i u, #[.int .u8 (kd : Int), sv [104, 50], .slice aa an ac, .bool sf, sv dt, .int .i64 (a : Int)].toList[i]? = some u → W.cell? ⟨d, i, none⟩ = some u) := hcW
  have HW : Hid (w.alloc (.cells #[.int .u8 (kd : Int), sv [104, 50], .slice aa an ac, .bool sf, sv dt, .int .i64 (a : Int)] 43) = W) := hW
  have HD : Hid (w.heap.size = d) := hd
  have t0 := hcW 0 _ rfl
  have t1 := hcW 1 _ rfl
  have t2 := hcW 2 _ rfl
  have t3 := hcW 3 _ rfl
  have t4 := hcW 4 _ rfl
  have t5 := hcW 5 _ rfl
  clear h hW hd kW sW hcW
  go_enter Try.func57, Try.ntmps57
  go_upto_region 18 with fail
  rw [HW.out, HD.out]
  clear HW HD
  go_region_with (first
    | (go_at_call 80
       go_must (refine (endTop_any (fun k => K k ∨ k = d) p st _ (by repeat (first | exact HN1.out.bx | refine BX.drew ?_ | refine BX.alloc ?_ _)) hl (isIn headL) 82 #[] (Ans.heads _)).mono ?_)
       rintro e w2 ⟨⟨la, cap, rfl, -, -⟩, hX4, hK4⟩
       go_must (have HNE : Hid (Nr (fun k => K k ∨ k = d) p (st.fin (isIn headL) anyN) W w2) := ⟨hX4, Kept.trans (by first | exact HN1.out.kp | exact HN1.out.kp.drew) hK4⟩)
       have t0w2 : w2.cell? ⟨d, 0, none⟩ = _ := (HNE.out.kp.cell (p := ⟨d, 0, none⟩) (.inr rfl)).trans (HC.out 0 _ rfl)
       have t1w2 : w2.cell? ⟨d, 1, none⟩ = _ := (HNE.out.kp.cell (p := ⟨d, 1, none⟩) (.inr rfl)).trans (HC.out 1 _ rfl)
       have t2w2 : w2.cell? ⟨d, 2, none⟩ = _ := (HNE.out.kp.cell (p := ⟨d, 2, none⟩) (.inr rfl)).trans (HC.out 2 _ rfl)
       have t3w2 : w2.cell? ⟨d, 3, none⟩ = _ := (HNE.out.kp.cell (p := ⟨d, 3, none⟩) (.inr rfl)).trans (HC.out 3 _ rfl)
       have t4w2 : w2.cell? ⟨d, 4, none⟩ = _ := (HNE.out.kp.cell (p := ⟨d, 4, none⟩) (.inr rfl)).trans (HC.out 4 _ rfl)
       have t5w2 : w2.cell? ⟨d, 5, none⟩ = _ := (HNE.out.kp.cell (p := ⟨d, 5, none⟩) (.inr rfl)).trans (HC.out 5 _ rfl)
       clear hX4 hK4)
    | (go_at_call 81
       go_must (refine (faultClosed_any (fun k => K k ∨ k = d) p (st.fin (isIn headL) anyN) _ (by repeat (first | exact HNE.out.bx | refine BX.drew ?_ | refine BX.alloc ?_ _)) (by rw [(fin_opn st (isIn headL) anyN).2.1]; exact hn) kd [104, 50] aa an ac sf dt a _ _ _ (Nat.le_trans (ended_len _ _) hl)).mono ?_)
       rintro e w9 ⟨rfl, hX9, hK9⟩
       rw [finF_eq] at hX9
       have HX9 : Hid (BX K w9 p (st.finF (isIn headL) anyN a)) := hX9.weaken fun _ h => .inl h
       have HK9 : Hid (Kept K w w9) := HK1.out.trans ((HNE.out.kp.mono fun _ h => .inl h).trans (hK9.mono fun _ h => .inl h))
       clear hX9 hK9))
  all_goals
    clear HN1 HNE HC
    go_wp2
    go_end0
    exact ⟨rfl, HX9.out, HK9.out⟩

set_option maxRecDepth 20000 in
set_option maxHeartbeats 1000000 in
theorem endAhead_h3 (K : Nat → Prop) (p : Nat) (st : BS) (w : World) (h : BX K w p st) (hl : st.opn.length ≤ 1000000) (hn : st.flts.length ≤ 1000000) (kd : Nat) (aa : Option Addr) (an ac : Nat) (sf : Bool) (dt : List UInt8) (a : Nat) :
    Calls Try.prog 57 #[.pointer (some ⟨p, 0, none⟩), tokV kd [104, 51] aa an ac sf dt a] w fun e w' => e = .returned (.tuple #[]) ∧ BX K w' p (st.finF (isIn headL) anyN a) ∧ Kept K w w' := by
  obtain ⟨W, hW⟩ : ∃ W, w.alloc (.cells #[.int .u8 (kd : Int), sv [104, 51], .slice aa an ac, .bool sf, sv dt, .int .i64 (a : Int)] 43) = W := ⟨_, rfl⟩
  obtain ⟨d, hd⟩ : ∃ d, w.heap.size = d := ⟨_, rfl⟩
  have kW : Kept (fun k => k < w.heap.size) w W := by rw [← hW]; exact (Kept.refl _ w).alloc (fun _ h => h) _
  have sW : W.heap.size = d + 1 := by rw [← hW, ← hd]; simp
  have hcW : ∀ i u, #[.int .u8 (kd : Int), sv [104, 51], .slice aa an ac, .bool sf, sv dt, .int .i64 (a : Int)].toList[i]? = some u → W.cell? ⟨d, i, none⟩ = some u := by
    intro i u hi
    rw [← hW, ← hd, cell_block (heap_alloc_new w _), ← Array.getElem?_toList]
    exact hi
  have HN1 : Hid (Nr (fun k => K k ∨ k = d) p st W W) := by
    refine ⟨h.more kW ?_ ?_, Kept.refl _ _⟩
    · rintro k (hk | rfl)
      · exact .inl hk
      · exact .inr (by omega)
    · rintro k (hk | rfl)
      · have := h.lt k hk; omega
      · omega
  have HK1 : Hid (Kept K w W) := kW.mono h.lt
  have HC : Hid (∀ i u, #[.int .u8 (kd : Int), sv [104, 51], .slice aa an ac, .bool sf, sv dt, .int .i64 (a : Int)].toList[i]? = some u → W.cell? ⟨d, i, none⟩ = some u) := hcW
  have HW : Hid (w.alloc (.cells #[.int .u8 (kd : Int), sv [104, 51], .slice aa an ac, .bool sf, sv dt, .int .i64 (a : Int)] 43) = W) := hW
  have HD : Hid (w.heap.size = d) := hd
  have t0 := hcW 0 _ rfl
  have t1 := hcW 1 _ rfl
  have t2 := hcW 2 _ rfl
  have t3 := hcW 3 _ rfl
  have t4 := hcW 4 _ rfl
  have t5 := hcW 5 _ rfl
  clear h hW hd kW sW hcW
  go_enter Try.func57, Try.ntmps57
  go_upto_region 18 with fail
  rw [HW.out, HD.out]
  clear HW HD
  go_region_with (first
    | (go_at_call 80
       go_must (refine (endTop_any (fun k => K k ∨ k = d) p st _ (by repeat (first | exact HN1.out.bx | refine BX.drew ?_ | refine BX.alloc ?_ _)) hl (isIn headL) 82 #[] (Ans.heads _)).mono ?_)
       rintro e w2 ⟨⟨la, cap, rfl, -, -⟩, hX4, hK4⟩
       go_must (have HNE : Hid (Nr (fun k => K k ∨ k = d) p (st.fin (isIn headL) anyN) W w2) := ⟨hX4, Kept.trans (by first | exact HN1.out.kp | exact HN1.out.kp.drew) hK4⟩)
       have t0w2 : w2.cell? ⟨d, 0, none⟩ = _ := (HNE.out.kp.cell (p := ⟨d, 0, none⟩) (.inr rfl)).trans (HC.out 0 _ rfl)
       have t1w2 : w2.cell? ⟨d, 1, none⟩ = _ := (HNE.out.kp.cell (p := ⟨d, 1, none⟩) (.inr rfl)).trans (HC.out 1 _ rfl)
       have t2w2 : w2.cell? ⟨d, 2, none⟩ = _ := (HNE.out.kp.cell (p := ⟨d, 2, none⟩) (.inr rfl)).trans (HC.out 2 _ rfl)
       have t3w2 : w2.cell? ⟨d, 3, none⟩ = _ := (HNE.out.kp.cell (p := ⟨d, 3, none⟩) (.inr rfl)).trans (HC.out 3 _ rfl)
       have t4w2 : w2.cell? ⟨d, 4, none⟩ = _ := (HNE.out.kp.cell (p := ⟨d, 4, none⟩) (.inr rfl)).trans (HC.out 4 _ rfl)
       have t5w2 : w2.cell? ⟨d, 5, none⟩ = _ := (HNE.out.kp.cell (p := ⟨d, 5, none⟩) (.inr rfl)).trans (HC.out 5 _ rfl)
       clear hX4 hK4)
    | (go_at_call 81
       go_must (refine (faultClosed_any (fun k => K k ∨ k = d) p (st.fin (isIn headL) anyN) _ (by repeat (first | exact HNE.out.bx | refine BX.drew ?_ | refine BX.alloc ?_ _)) (by rw [(fin_opn st (isIn headL) anyN).2.1]; exact hn) kd [104, 51] aa an ac sf dt a _ _ _ (Nat.le_trans (ended_len _ _) hl)).mono ?_)
       rintro e w9 ⟨rfl, hX9, hK9⟩
       rw [finF_eq] at hX9
       have HX9 : Hid (BX K w9 p (st.finF (isIn headL) anyN a)) := hX9.weaken fun _ h => .inl h
       have HK9 : Hid (Kept K w w9) := HK1.out.trans ((HNE.out.kp.mono fun _ h => .inl h).trans (hK9.mono fun _ h => .inl h))
       clear hX9 hK9))
  all_goals
    clear HN1 HNE HC
    go_wp2
    go_end0
    exact ⟨rfl, HX9.out, HK9.out⟩

set_option maxRecDepth 20000 in
set_option maxHeartbeats 1000000 in
theorem endAhead_h4 (K : Nat → Prop) (p : Nat) (st : BS) (w : World) (h : BX K w p st) (hl : st.opn.length ≤ 1000000) (hn : st.flts.length ≤ 1000000) (kd : Nat) (aa : Option Addr) (an ac : Nat) (sf : Bool) (dt : List UInt8) (a : Nat) :
    Calls Try.prog 57 #[.pointer (some ⟨p, 0, none⟩), tokV kd [104, 52] aa an ac sf dt a] w fun e w' => e = .returned (.tuple #[]) ∧ BX K w' p (st.finF (isIn headL) anyN a) ∧ Kept K w w' := by
  obtain ⟨W, hW⟩ : ∃ W, w.alloc (.cells #[.int .u8 (kd : Int), sv [104, 52], .slice aa an ac, .bool sf, sv dt, .int .i64 (a : Int)] 43) = W := ⟨_, rfl⟩
  obtain ⟨d, hd⟩ : ∃ d, w.heap.size = d := ⟨_, rfl⟩
  have kW : Kept (fun k => k < w.heap.size) w W := by rw [← hW]; exact (Kept.refl _ w).alloc (fun _ h => h) _
  have sW : W.heap.size = d + 1 := by rw [← hW, ← hd]; simp
  have hcW : ∀ i u, #[.int .u8 (kd : Int), sv [104, 52], .slice aa an ac, .bool sf, sv dt, .int .i64 (a : Int)].toList[i]? = some u → W.cell? ⟨d, i, none⟩ = some u := by
    intro i u hi
    rw [← hW, ← hd, cell_block (heap_alloc_new w _), ← Array.getElem?_toList]
    exact hi
  have HN1 : Hid (Nr (fun k => K k ∨ k = d) p st W W) := by
    refine ⟨h.more kW ?_ ?_, Kept.refl _ _⟩
    · rintro k (hk | rfl)
      · exact .inl hk
      · exact .inr (by omega)
    · rintro k (hk | rfl)
      · have := h.lt k hk; omega
      · omega
  have HK1 : Hid (Kept K w W) := kW.mono h.lt
  have HC : Hid (∀ i u, #[.int .u8 (kd : Int), sv [104, 52], .slice aa an ac, .bool sf, sv dt, .int .i64 (a : Int)].toList[i]? = some u → W.cell? ⟨d, i, none⟩ = some u) := hcW
  have HW : Hid (w.alloc (.cells #[.int .u8 (kd : Int), sv [104, 52], .slice aa an ac, .bool sf, sv dt, .int .i64 (a : Int)] 43) = W) := hW
  have HD : Hid (w.heap.size = d) := hd
  have t0 := hcW 0 _ rfl
  have t1 := hcW 1 _ rfl
  have t2 := hcW 2 _ rfl
  have t3 := hcW 3 _ rfl
  have t4 := hcW 4 _ rfl
  have t5 := hcW 5 _ rfl
  clear h hW hd kW sW hcW
  go_enter Try.func57, Try.ntmps57
  go_upto_region 18 with fail
  rw [HW.out, HD.out]
  clear HW HD
  go_region_with (first
    | (go_at_call 80
       go_must (refine (endTop_any (fun k => K k ∨ k = d) p st _ (by repeat (first | exact HN1.out.bx | refine BX.drew ?_ | refine BX.alloc ?_ _)) hl (isIn headL) 82 #[] (Ans.heads _)).mono ?_)
       rintro e w2 ⟨⟨la, cap, rfl, -, -⟩, hX4, hK4⟩
       go_must (have HNE : Hid (Nr (fun k => K k ∨ k = d) p (st.fin (isIn headL) anyN) W w2) := ⟨hX4, Kept.trans (by first | exact HN1.out.kp | exact HN1.out.kp.drew) hK4⟩)
       have t0w2 : w2.cell? ⟨d, 0, none⟩ = _ := (HNE.out.kp.cell (p := ⟨d, 0, none⟩) (.inr rfl)).trans (HC.out 0 _ rfl)
       have t1w2 : w2.cell? ⟨d, 1, none⟩ = _ := (HNE.out.kp.cell (p := ⟨d, 1, none⟩) (.inr rfl)).trans (HC.out 1 _ rfl)
       have t2w2 : w2.cell? ⟨d, 2, none⟩ = _ := (HNE.out.kp.cell (p := ⟨d, 2, none⟩) (.inr rfl)).trans (HC.out 2 _ rfl)
       have t3w2 : w2.cell? ⟨d, 3, none⟩ = _ := (HNE.out.kp.cell (p := ⟨d, 3, none⟩) (.inr rfl)).trans (HC.out 3 _ rfl)
       have t4w2 : w2.cell? ⟨d, 4, none⟩ = _ := (HNE.out.kp.cell (p := ⟨d, 4, none⟩) (.inr rfl)).trans (HC.out 4 _ rfl)
       have t5w2 : w2.cell? ⟨d, 5, none⟩ = _ := (HNE.out.kp.cell (p := ⟨d, 5, none⟩) (.inr rfl)).trans (HC.out 5 _ rfl)
       clear hX4 hK4)
    | (go_at_call 81
       go_must (refine (faultClosed_any (fun k => K k ∨ k = d) p (st.fin (isIn headL) anyN) _ (by repeat (first | exact HNE.out.bx | refine BX.drew ?_ | refine BX.alloc ?_ _)) (by rw [(fin_opn st (isIn headL) anyN).2.1]; exact hn) kd [104, 52] aa an ac sf dt a _ _ _ (Nat.le_trans (ended_len _ _) hl)).mono ?_)
       rintro e w9 ⟨rfl, hX9, hK9⟩
       rw [finF_eq] at hX9
       have HX9 : Hid (BX K w9 p (st.finF (isIn headL) anyN a)) := hX9.weaken fun _ h => .inl h
       have HK9 : Hid (Kept K w w9) := HK1.out.trans ((HNE.out.kp.mono fun _ h => .inl h).trans (hK9.mono fun _ h => .inl h))
       clear hX9 hK9))
  all_goals
    clear HN1 HNE HC
    go_wp2
    go_end0
    exact ⟨rfl, HX9.out, HK9.out⟩

set_option maxRecDepth 20000 in
set_option maxHeartbeats 1000000 in
theorem endAhead_h5 (K : Nat → Prop) (p : Nat) (st : BS) (w : World) (h : BX K w p st) (hl : st.opn.length ≤ 1000000) (hn : st.flts.length ≤ 1000000) (kd : Nat) (aa : Option Addr) (an ac : Nat) (sf : Bool) (dt : List UInt8) (a : Nat) :
    Calls Try.prog 57 #[.pointer (some ⟨p, 0, none⟩), tokV kd [104, 53] aa an ac sf dt a] w fun e w' => e = .returned (.tuple #[]) ∧ BX K w' p (st.finF (isIn headL) anyN a) ∧ Kept K w w' := by
  obtain ⟨W, hW⟩ : ∃ W, w.alloc (.cells #[.int .u8 (kd : Int), sv [104, 53], .slice aa an ac, .bool sf, sv dt, .int .i64 (a : Int)] 43) = W := ⟨_, rfl⟩
  obtain ⟨d, hd⟩ : ∃ d, w.heap.size = d := ⟨_, rfl⟩
  have kW : Kept (fun k => k < w.heap.size) w W := by rw [← hW]; exact (Kept.refl _ w).alloc (fun _ h => h) _
  have sW : W.heap.size = d + 1 := by rw [← hW, ← hd]; simp
  have hcW : ∀ i u, #[.int .u8 (kd : Int), sv [104, 53], .slice aa an ac, .bool sf, sv dt, .int .i64 (a : Int)].toList[i]? = some u → W.cell? ⟨d, i, none⟩ = some u := by
    intro i u hi
    rw [← hW, ← hd, cell_block (heap_alloc_new w _), ← Array.getElem?_toList]
    exact hi
  have HN1 : Hid (Nr (fun k => K k ∨ k = d) p st W W) := by
    refine ⟨h.more kW ?_ ?_, Kept.refl _ _⟩
    · rintro k (hk | rfl)
      · exact .inl hk
      · exact .inr (by omega)
    · rintro k (hk | rfl)
      · have := h.lt k hk; omega
      · omega
  have HK1 : Hid (Kept K w W) := kW.mono h.lt
  have HC : Hid (∀ i u, #[.int .u8 (kd : Int), sv [104, 53], .slice aa an ac, .bool sf, sv dt, .int .i64 (a : Int)].toList[i]? = some u → W.cell? ⟨d, i, none⟩ = some u) := hcW
  have HW : Hid (w.alloc (.cells #[.int .u8 (kd : Int), sv [104, 53], .slice aa an ac, .bool sf, sv dt, .int .i64 (a : Int)] 43) = W) := hW
  have HD : Hid (w.heap.size = d) := hd
  have t0 := hcW 0 _ rfl
  have t1 := hcW 1 _ rfl
  have t2 := hcW 2 _ rfl
  have t3 := hcW 3 _ rfl
  have t4 := hcW 4 _ rfl
  have t5 := hcW 5 _ rfl
  clear h hW hd kW sW hcW
  go_enter Try.func57, Try.ntmps57
  go_upto_region 18 with fail
  rw [HW.out, HD.out]
  clear HW HD
  go_region_with (first
    | (go_at_call 80
       go_must (refine (endTop_any (fun k => K k ∨ k = d) p st _ (by repeat (first | exact HN1.out.bx | refine BX.drew ?_ | refine BX.alloc ?_ _)) hl (isIn headL) 82 #[] (Ans.heads _)).mono ?_)
       rintro e w2 ⟨⟨la, cap, rfl, -, -⟩, hX4, hK4⟩
       go_must (have HNE : Hid (Nr (fun k => K k ∨ k = d) p (st.fin (isIn headL) anyN) W w2) := ⟨hX4, Kept.trans (by first | exact HN1.out.kp | exact HN1.out.kp.drew) hK4⟩)
       have t0w2 : w2.cell? ⟨d, 0, none⟩ = _ := (HNE.out.kp.cell (p := ⟨d, 0, none⟩) (.inr rfl)).trans (HC.out 0 _ rfl)
       have t1w2 : w2.cell? ⟨d, 1, none⟩ = _ := (HNE.out.kp.cell (p := ⟨d, 1, none⟩) (.inr rfl)).trans (HC.out 1 _ rfl)
       have t2w2 : w2.cell? ⟨d, 2, none⟩ = _ := (HNE.out.kp.cell (p := ⟨d, 2, none⟩) (.inr rfl)).trans (HC.out 2 _ rfl)
       have t3w2 : w2.cell? ⟨d, 3, none⟩ = _ := (HNE.out.kp.cell (p := ⟨d, 3, none⟩) (.inr rfl)).trans (HC.out 3 _ rfl)
       have t4w2 : w2.cell? ⟨d, 4, none⟩ = _ := (HNE.out.kp.cell (p := ⟨d, 4, none⟩) (.inr rfl)).trans (HC.out 4 _ rfl)
       have t5w2 : w2.cell? ⟨d, 5, none⟩ = _ := (HNE.out.kp.cell (p := ⟨d, 5, none⟩) (.inr rfl)).trans (HC.out 5 _ rfl)
       clear hX4 hK4)
    | (go_at_call 81
       go_must (refine (faultClosed_any (fun k => K k ∨ k = d) p (st.fin (isIn headL) anyN) _ (by repeat (first | exact HNE.out.bx | refine BX.drew ?_ | refine BX.alloc ?_ _)) (by rw [(fin_opn st (isIn headL) anyN).2.1]; exact hn) kd [104, 53] aa an ac sf dt a _ _ _ (Nat.le_trans (ended_len _ _) hl)).mono ?_)
       rintro e w9 ⟨rfl, hX9, hK9⟩
       rw [finF_eq] at hX9
       have HX9 : Hid (BX K w9 p (st.finF (isIn headL) anyN a)) := hX9.weaken fun _ h => .inl h
       have HK9 : Hid (Kept K w w9) := HK1.out.trans ((HNE.out.kp.mono fun _ h => .inl h).trans (hK9.mono fun _ h => .inl h))
       clear hX9 hK9))
  all_goals
    clear HN1 HNE HC
    go_wp2
    go_end0
    exact ⟨rfl, HX9.out, HK9.out⟩

set_option maxRecDepth 20000 in
set_option maxHeartbeats 1000000 in
theorem endAhead_h6 (K : Nat → Prop) (p : Nat) (st : BS) (w : World) (h : BX K w p st) (hl : st.opn.length ≤ 1000000) (hn : st.flts.length ≤ 1000000) (kd : Nat) (aa : Option Addr) (an ac : Nat) (sf : Bool) (dt : List UInt8) (a : Nat) :
    Calls Try.prog 57 #[.pointer (some ⟨p, 0, none⟩), tokV kd [104, 54] aa an ac sf dt a] w fun e w' => e = .returned (.tuple #[]) ∧ BX K w' p (st.finF (isIn headL) anyN a) ∧ Kept K w w' := by
  obtain ⟨W, hW⟩ : ∃ W, w.alloc (.cells #[.int .u8 (kd : Int), sv [104, 54], .slice aa an ac, .bool sf, sv dt, .int .i64 (a : Int)] 43) = W := ⟨_, rfl⟩
  obtain ⟨d, hd⟩ : ∃ d, w.heap.size = d := ⟨_, rfl⟩
  have kW : Kept (fun k => k < w.heap.size) w W := by rw [← hW]; exact (Kept.refl _ w).alloc (fun _ h => h) _
  have sW : W.heap.size = d + 1 := by rw [← hW, ← hd]; simp
  have hcW : ∀ i u, #[.int .u8 (kd : Int), sv [104, 54], .slice aa an ac, .bool sf, sv dt, .int .i64 (a : Int)].toList[i]? = some u → W.cell? ⟨d, i, none⟩ = some u := by
    intro i u hi
    rw [← hW, ← hd, cell_block (heap_alloc_new w _), ← Array.getElem?_toList]
    exact hi
  have HN1 : Hid (Nr (fun k => K k ∨ k = d) p st W W) := by
    refine ⟨h.more kW ?_ ?_, Kept.refl _ _⟩
    · rintro k (hk | rfl)
      · exact .inl hk
      · exact .inr (by omega)
    · rintro k (hk | rfl)
      · have := h.lt k hk; omega
      · omega
  have HK1 : Hid (Kept K w W) := kW.mono h.lt
  have HC : Hid (∀ i u, #[.int .u8 (kd : Int), sv [104, 54], .slice aa an ac, .bool sf, sv dt, .int .i64 (a : Int)].toList[i]? = some u → W.cell? ⟨d, i, none⟩ = some u) := hcW
  have HW : Hid (w.alloc (.cells #[.int .u8 (kd : Int), sv [104, 54], .slice aa an ac, .bool sf, sv dt, .int .i64 (a : Int)] 43) = W) := hW
  have HD : Hid (w.heap.size = d) := hd
  have t0 := hcW 0 _ rfl
  have t1 := hcW 1 _ rfl
  have t2 := hcW 2 _ rfl
  have t3 := hcW 3 _ rfl
  have t4 := hcW 4 _ rfl
  have t5 := hcW 5 _ rfl
  clear h hW hd kW sW hcW
  go_enter Try.func57, Try.ntmps57
  go_upto_region 18 with fail
  rw [HW.out, HD.out]
  clear HW HD
  go_region_with (first
    | (go_at_call 80
       go_must (refine (endTop_any (fun k => K k ∨ k = d) p st _ (by repeat (first | exact HN1.out.bx | refine BX.drew ?_ | refine BX.alloc ?_ _)) hl (isIn headL) 82 #[] (Ans.heads _)).mono ?_)
       rintro e w2 ⟨⟨la, cap, rfl, -, -⟩, hX4, hK4⟩
       go_must (have HNE : Hid (Nr (fun k => K k ∨ k = d) p (st.fin (isIn headL) anyN) W w2) := ⟨hX4, Kept.trans (by first | exact HN1.out.kp | exact HN1.out.kp.drew) hK4⟩)
       have t0w2 : w2.cell? ⟨d, 0, none⟩ = _ := (HNE.out.kp.cell (p := ⟨d, 0, none⟩) (.inr rfl)).trans (HC.out 0 _ rfl)
       have t1w2 : w2.cell? ⟨d, 1, none⟩ = _ := (HNE.out.kp.cell (p := ⟨d, 1, none⟩) (.inr rfl)).trans (HC.out 1 _ rfl)
       have t2w2 : w2.cell? ⟨d, 2, none⟩ = _ := (HNE.out.kp.cell (p := ⟨d, 2, none⟩) (.inr rfl)).trans (HC.out 2 _ rfl)
       have t3w2 : w2.cell? ⟨d, 3, none⟩ = _ := (HNE.out.kp.cell (p := ⟨d, 3, none⟩) (.inr rfl)).trans (HC.out 3 _ rfl)
       have t4w2 : w2.cell? ⟨d, 4, none⟩ = _ := (HNE.out.kp.cell (p := ⟨d, 4, none⟩) (.inr rfl)).trans (HC.out 4 _ rfl)
       have t5w2 : w2.cell? ⟨d, 5, none⟩ = _ := (HNE.out.kp.cell (p := ⟨d, 5, none⟩) (.inr rfl)).trans (HC.out 5 _ rfl)
       clear hX4 hK4)
    | (go_at_call 81
       go_must (refine (faultClosed_any (fun k => K k ∨ k = d) p (st.fin (isIn headL) anyN) _ (by repeat (first | exact HNE.out.bx | refine BX.drew ?_ | refine BX.alloc ?_ _)) (by rw [(fin_opn st (isIn headL) anyN).2.1]; exact hn) kd [104, 54] aa an ac sf dt a _ _ _ (Nat.le_trans (ended_len _ _) hl)).mono ?_)
       rintro e w9 ⟨rfl, hX9, hK9⟩
       rw [finF_eq] at hX9
       have HX9 : Hid (BX K w9 p (st.finF (isIn headL) anyN a)) := hX9.weaken fun _ h => .inl h
       have HK9 : Hid (Kept K w w9) := HK1.out.trans ((HNE.out.kp.mono fun _ h => .inl h).trans (hK9.mono fun _ h => .inl h))
       clear hX9 hK9))
  all_goals
    clear HN1 HNE HC
    go_wp2
    go_end0
    exact ⟨rfl, HX9.out, HK9.out⟩

end Go.Proofs.Ytffllhohlfblnaa

namespace Go.Proofs.Ytffllhohlfblnaa
open Go.RowKit

set_option maxRecDepth 20000 in
set_option maxHeartbeats 8000000 in
theorem endAhead_a (K : Nat → Prop) (p : Nat) (st : BS) (w : World) (h : BX K w p st) (hl : st.opn.length ≤ 1000000) (hn : st.flts.length ≤ 1000000) (kd : Nat) (aa : Option Addr) (an ac : Nat) (sf : Bool) (dt : List UInt8) (a : Nat) :
    Calls Try.prog 57 #[.pointer (some ⟨p, 0, none⟩), tokV kd [97] aa an ac sf dt a] w fun e w' => e = .returned (.tuple #[]) ∧ BX K w' p (st.finF (isIn [[97]]) (isIn [[116, 101, 109, 112, 108, 97, 116, 101]]) a) ∧ Kept K w w' := by
  obtain ⟨W, hW⟩ : ∃ W, w.alloc (.cells #[.int .u8 (kd : Int), sv [97], .slice aa an ac, .bool sf, sv dt, .int .i64 (a : Int)] 43) = W := ⟨_, rfl⟩
  obtain ⟨d, hd⟩ : ∃ d, w.heap.size = d := ⟨_, rfl⟩
  have kW : Kept (fun k => k < w.heap.size) w W := by rw [← hW]; exact (Kept.refl _ w).alloc (fun _ h => h) _
  have sW : W.heap.size = d + 1 := by rw [← hW, ← hd]; simp
  have hcW : ∀ i u, #[.int .u8 (kd : Int), sv [97], .slice aa an ac, .bool sf, sv dt, .int .i64 (a : Int)].toList[i]? = some u → W.cell? ⟨d, i, none⟩ = some u := by
    intro i u hi
    rw [← hW, ← hd, cell_block (heap_alloc_new w _), ← Array.getElem?_toList]
    exact hi
  have HN1 : Hid (Nr (fun k => K k ∨ k = d) p st W W) := by
    refine ⟨h.more kW ?_ ?_, Kept.refl _ _⟩
    · rintro k (hk | rfl)
      · exact .inl hk
      · exact .inr (by omega)
    · rintro k (hk | rfl)
      · have := h.lt k hk; omega
      · omega
  have HK1 : Hid (Kept K w W) := kW.mono h.lt
  have HC : Hid (∀ i u, #[.int .u8 (kd : Int), sv [97], .slice aa an ac, .bool sf, sv dt, .int .i64 (a : Int)].toList[i]? = some u → W.cell? ⟨d, i, none⟩ = some u) := hcW
  have HW : Hid (w.alloc (.cells #[.int .u8 (kd : Int), sv [97], .slice aa an ac, .bool sf, sv dt, .int .i64 (a : Int)] 43) = W) := hW
  have HD : Hid (w.heap.size = d) := hd
  have t0W := hcW 0 _ rfl
  have t1W := hcW 1 _ rfl
  have t2W := hcW 2 _ rfl
  have t3W := hcW 3 _ rfl
  have t4W := hcW 4 _ rfl
  have t5W := hcW 5 _ rfl
  have u0W : ∀ o, (W.alloc o).cell? ⟨d, 0, none⟩ = _ := fun o => (Kept.cell ((Kept.refl (fun k => k < W.heap.size) W).alloc (fun _ h => h) o) (p := ⟨d, 0, none⟩) (HN1.out.bx.lt d (.inr rfl))).trans t0W
  have u1W : ∀ o, (W.alloc o).cell? ⟨d, 1, none⟩ = _ := fun o => (Kept.cell ((Kept.refl (fun k => k < W.heap.size) W).alloc (fun _ h => h) o) (p := ⟨d, 1, none⟩) (HN1.out.bx.lt d (.inr rfl))).trans t1W
  have u2W : ∀ o, (W.alloc o).cell? ⟨d, 2, none⟩ = _ := fun o => (Kept.cell ((Kept.refl (fun k => k < W.heap.size) W).alloc (fun _ h => h) o) (p := ⟨d, 2, none⟩) (HN1.out.bx.lt d (.inr rfl))).trans t2W
  have u3W : ∀ o, (W.alloc o).cell? ⟨d, 3, none⟩ = _ := fun o => (Kept.cell ((Kept.refl (fun k => k < W.heap.size) W).alloc (fun _ h => h) o) (p := ⟨d, 3, none⟩) (HN1.out.bx.lt d (.inr rfl))).trans t3W
  have u4W : ∀ o, (W.alloc o).cell? ⟨d, 4, none⟩ = _ := fun o => (Kept.cell ((Kept.refl (fun k => k < W.heap.size) W).alloc (fun _ h => h) o) (p := ⟨d, 4, none⟩) (HN1.out.bx.lt d (.inr rfl))).trans t4W
  have u5W : ∀ o, (W.alloc o).cell? ⟨d, 5, none⟩ = _ := fun o => (Kept.cell ((Kept.refl (fun k => k < W.heap.size) W).alloc (fun _ h => h) o) (p := ⟨d, 5, none⟩) (HN1.out.bx.lt d (.inr rfl))).trans t5W
  have v0W : ∀ o o', ((W.alloc o).alloc o').cell? ⟨d, 0, none⟩ = _ := fun o o' => (Kept.cell ((Kept.refl (fun k => k < (W.alloc o).heap.size) (W.alloc o)).alloc (fun _ h => h) o') (p := ⟨d, 0, none⟩) (by have := HN1.out.bx.lt d (.inr rfl); simp; omega)).trans (u0W o)
  have v1W : ∀ o o', ((W.alloc o).alloc o').cell? ⟨d, 1, none⟩ = _ := fun o o' => (Kept.cell ((Kept.refl (fun k => k < (W.alloc o).heap.size) (W.alloc o)).alloc (fun _ h => h) o') (p := ⟨d, 1, none⟩) (by have := HN1.out.bx.lt d (.inr rfl); simp; omega)).trans (u1W o)
  have v2W : ∀ o o', ((W.alloc o).alloc o').cell? ⟨d, 2, none⟩ = _ := fun o o' => (Kept.cell ((Kept.refl (fun k => k < (W.alloc o).heap.size) (W.alloc o)).alloc (fun _ h => h) o') (p := ⟨d, 2, none⟩) (by have := HN1.out.bx.lt d (.inr rfl); simp; omega)).trans (u2W o)
  have v3W : ∀ o o', ((W.alloc o).alloc o').cell? ⟨d, 3, none⟩ = _ := fun o o' => (Kept.cell ((Kept.refl (fun k => k < (W.alloc o).heap.size) (W.alloc o)).alloc (fun _ h => h) o') (p := ⟨d, 3, none⟩) (by have := HN1.out.bx.lt d (.inr rfl); simp; omega)).trans (u3W o)
  have v4W : ∀ o o', ((W.alloc o).alloc o').cell? ⟨d, 4, none⟩ = _ := fun o o' => (Kept.cell ((Kept.refl (fun k => k < (W.alloc o).heap.size) (W.alloc o)).alloc (fun _ h => h) o') (p := ⟨d, 4, none⟩) (by have := HN1.out.bx.lt d (.inr rfl); simp; omega)).trans (u4W o)
  have v5W : ∀ o o', ((W.alloc o).alloc o').cell? ⟨d, 5, none⟩ = _ := fun o o' => (Kept.cell ((Kept.refl (fun k => k < (W.alloc o).heap.size) (W.alloc o)).alloc (fun _ h => h) o') (p := ⟨d, 5, none⟩) (by have := HN1.out.bx.lt d (.inr rfl); simp; omega)).trans (u5W o)
  clear h hW hd kW sW hcW
  go_enter Try.func57, Try.ntmps57
  go_upto_region 21 with fail
  rw [HW.out, HD.out]
  clear HW HD
  go_region_held3 (fun w' => w'.cell? ⟨d, 0, none⟩ = some (.int .u8 (kd : Int)) ∧ w'.cell? ⟨d, 1, none⟩ = some (sv [97]) ∧ w'.cell? ⟨d, 2, none⟩ = some (.slice aa an ac) ∧ w'.cell? ⟨d, 3, none⟩ = some (.bool sf) ∧ w'.cell? ⟨d, 4, none⟩ = some (sv dt) ∧ w'.cell? ⟨d, 5, none⟩ = some (.int .i64 (a : Int))) (go_keep) ((first
    | (go_at_call 60
       have guard := HN2
       go_must (refine (oneOf_is [[116, 101, 109, 112, 108, 97, 116, 101]] _ 1 _ (by decide) (by refine strs1 _ _ _ ?_ ?_ <;> (first | (simp; done) | (simp; omega) | (refine Nat.lt_of_lt_of_le ?_ k1.size; simp; done) | (refine Nat.lt_of_lt_of_le ?_ k1.size; simp; omega) | (refine (k1.cell ?_).trans ?_ <;> first | (simp; done) | (simp; omega))))).mono ?_)
       rintro e w3 ⟨⟨b2, rfl, o1⟩, k2⟩
       go_must (have HN3 : Hid (Nr (fun k => K k ∨ k = d) p st W w3) := Nr.kept (by repeat (first | exact HN2.out | refine Nr.drew ?_ | refine Nr.alloc ?_ _)) k2)
       have HO3 : Hid (Ans w3 (.func (.func 84) #[] #[.pointer (some ⟨b2, 0, none⟩)]) (isIn [[116, 101, 109, 112, 108, 97, 116, 101]])) := o1.ans
       go_must (have HOA : Hid (Ans w3 (.func (.func 84) #[] #[.pointer (some ⟨b1, 0, none⟩)]) (isIn [[97]])) := Ans.kept (by repeat (first | exact HO2.out | refine Ans.drew ?_ | refine Ans.alloc ?_ _)) k2)
       have t0w3 : w3.cell? ⟨d, 0, none⟩ = _ := (HN3.out.kp.cell (p := ⟨d, 0, none⟩) (.inr rfl)).trans (HC.out 0 _ rfl)
       have t1w3 : w3.cell? ⟨d, 1, none⟩ = _ := (HN3.out.kp.cell (p := ⟨d, 1, none⟩) (.inr rfl)).trans (HC.out 1 _ rfl)
       have t2w3 : w3.cell? ⟨d, 2, none⟩ = _ := (HN3.out.kp.cell (p := ⟨d, 2, none⟩) (.inr rfl)).trans (HC.out 2 _ rfl)
       have t3w3 : w3.cell? ⟨d, 3, none⟩ = _ := (HN3.out.kp.cell (p := ⟨d, 3, none⟩) (.inr rfl)).trans (HC.out 3 _ rfl)
       have t4w3 : w3.cell? ⟨d, 4, none⟩ = _ := (HN3.out.kp.cell (p := ⟨d, 4, none⟩) (.inr rfl)).trans (HC.out 4 _ rfl)
       have t5w3 : w3.cell? ⟨d, 5, none⟩ = _ := (HN3.out.kp.cell (p := ⟨d, 5, none⟩) (.inr rfl)).trans (HC.out 5 _ rfl)
       clear o1 guard)
    | (go_at_call 60
       go_must (refine (oneOf_is [[97]] _ 1 _ (by decide) (by refine strs1 _ _ _ ?_ ?_ <;> (first | (simp; done) | (simp; omega) | (refine Nat.lt_of_lt_of_le ?_ k0.size; simp; done) | (refine Nat.lt_of_lt_of_le ?_ k0.size; simp; omega) | (refine (k0.cell ?_).trans ?_ <;> first | (simp; done) | (simp; omega))))).mono ?_)
       rintro e w2 ⟨⟨b1, rfl, o1⟩, k1⟩
       go_must (have HN2 : Hid (Nr (fun k => K k ∨ k = d) p st W w2) := Nr.kept (by repeat (first | exact HN1.out | refine Nr.drew ?_ | refine Nr.alloc ?_ _)) k1)
       have HO2 : Hid (Ans w2 (.func (.func 84) #[] #[.pointer (some ⟨b1, 0, none⟩)]) (isIn [[97]])) := o1.ans
       have t0w2 : w2.cell? ⟨d, 0, none⟩ = _ := (HN2.out.kp.cell (p := ⟨d, 0, none⟩) (.inr rfl)).trans (HC.out 0 _ rfl)
       have t1w2 : w2.cell? ⟨d, 1, none⟩ = _ := (HN2.out.kp.cell (p := ⟨d, 1, none⟩) (.inr rfl)).trans (HC.out 1 _ rfl)
       have t2w2 : w2.cell? ⟨d, 2, none⟩ = _ := (HN2.out.kp.cell (p := ⟨d, 2, none⟩) (.inr rfl)).trans (HC.out 2 _ rfl)
       have t3w2 : w2.cell? ⟨d, 3, none⟩ = _ := (HN2.out.kp.cell (p := ⟨d, 3, none⟩) (.inr rfl)).trans (HC.out 3 _ rfl)
       have t4w2 : w2.cell? ⟨d, 4, none⟩ = _ := (HN2.out.kp.cell (p := ⟨d, 4, none⟩) (.inr rfl)).trans (HC.out 4 _ rfl)
       have t5w2 : w2.cell? ⟨d, 5, none⟩ = _ := (HN2.out.kp.cell (p := ⟨d, 5, none⟩) (.inr rfl)).trans (HC.out 5 _ rfl)
       have u0w2 : ∀ o, (w2.alloc o).cell? ⟨d, 0, none⟩ = _ := fun o => (Kept.cell ((Kept.refl (fun k => k < w2.heap.size) w2).alloc (fun _ h => h) o) (p := ⟨d, 0, none⟩) (HN2.out.bx.lt d (.inr rfl))).trans t0w2
       have u1w2 : ∀ o, (w2.alloc o).cell? ⟨d, 1, none⟩ = _ := fun o => (Kept.cell ((Kept.refl (fun k => k < w2.heap.size) w2).alloc (fun _ h => h) o) (p := ⟨d, 1, none⟩) (HN2.out.bx.lt d (.inr rfl))).trans t1w2
       have u2w2 : ∀ o, (w2.alloc o).cell? ⟨d, 2, none⟩ = _ := fun o => (Kept.cell ((Kept.refl (fun k => k < w2.heap.size) w2).alloc (fun _ h => h) o) (p := ⟨d, 2, none⟩) (HN2.out.bx.lt d (.inr rfl))).trans t2w2
       have u3w2 : ∀ o, (w2.alloc o).cell? ⟨d, 3, none⟩ = _ := fun o => (Kept.cell ((Kept.refl (fun k => k < w2.heap.size) w2).alloc (fun _ h => h) o) (p := ⟨d, 3, none⟩) (HN2.out.bx.lt d (.inr rfl))).trans t3w2
       have u4w2 : ∀ o, (w2.alloc o).cell? ⟨d, 4, none⟩ = _ := fun o => (Kept.cell ((Kept.refl (fun k => k < w2.heap.size) w2).alloc (fun _ h => h) o) (p := ⟨d, 4, none⟩) (HN2.out.bx.lt d (.inr rfl))).trans t4w2
       have u5w2 : ∀ o, (w2.alloc o).cell? ⟨d, 5, none⟩ = _ := fun o => (Kept.cell ((Kept.refl (fun k => k < w2.heap.size) w2).alloc (fun _ h => h) o) (p := ⟨d, 5, none⟩) (HN2.out.bx.lt d (.inr rfl))).trans t5w2
       clear o1)
    | (go_at_call 59
       go_must (refine (end_any (fun k => K k ∨ k = d) p st _ HN3.out.bx hl _ _ _ _ HOA.out HO3.out).mono ?_)
       rintro e w4 ⟨⟨la, cap, rfl, -, -⟩, hX4, hK4⟩
       have HNE : Hid (Nr (fun k => K k ∨ k = d) p (st.fin (isIn [[97]]) (isIn [[116, 101, 109, 112, 108, 97, 116, 101]])) W w4) := ⟨hX4, HN3.out.kp.trans hK4⟩
       have t0w4 : w4.cell? ⟨d, 0, none⟩ = _ := (HNE.out.kp.cell (p := ⟨d, 0, none⟩) (.inr rfl)).trans (HC.out 0 _ rfl)
       have t1w4 : w4.cell? ⟨d, 1, none⟩ = _ := (HNE.out.kp.cell (p := ⟨d, 1, none⟩) (.inr rfl)).trans (HC.out 1 _ rfl)
       have t2w4 : w4.cell? ⟨d, 2, none⟩ = _ := (HNE.out.kp.cell (p := ⟨d, 2, none⟩) (.inr rfl)).trans (HC.out 2 _ rfl)
       have t3w4 : w4.cell? ⟨d, 3, none⟩ = _ := (HNE.out.kp.cell (p := ⟨d, 3, none⟩) (.inr rfl)).trans (HC.out 3 _ rfl)
       have t4w4 : w4.cell? ⟨d, 4, none⟩ = _ := (HNE.out.kp.cell (p := ⟨d, 4, none⟩) (.inr rfl)).trans (HC.out 4 _ rfl)
       have t5w4 : w4.cell? ⟨d, 5, none⟩ = _ := (HNE.out.kp.cell (p := ⟨d, 5, none⟩) (.inr rfl)).trans (HC.out 5 _ rfl)
       clear hX4 hK4)
    | (go_at_call 81
       go_must (refine (faultClosed_any (fun k => K k ∨ k = d) p (st.fin (isIn [[97]]) (isIn [[116, 101, 109, 112, 108, 97, 116, 101]])) _ (by repeat (first | exact HNE.out.bx | refine BX.drew ?_ | refine BX.alloc ?_ _)) (by rw [(fin_opn st (isIn [[97]]) (isIn [[116, 101, 109, 112, 108, 97, 116, 101]])).2.1]; exact hn) kd [97] aa an ac sf dt a _ _ _ (Nat.le_trans (ended_len _ _) hl)).mono ?_)
       rintro e w9 ⟨rfl, hX9, hK9⟩
       rw [finF_eq] at hX9
       have HX9 : Hid (BX K w9 p (st.finF (isIn [[97]]) (isIn [[116, 101, 109, 112, 108, 97, 116, 101]]) a)) := hX9.weaken fun _ h => .inl h
       have HK9 : Hid (Kept K w w9) := HK1.out.trans ((HNE.out.kp.mono fun _ h => .inl h).trans (hK9.mono fun _ h => .inl h))
       have KP9 : Kept (fun k => K k ∨ k = d) W w9 := HNE.out.kp.trans hK9
       have t0w9 : w9.cell? ⟨d, 0, none⟩ = _ := (KP9.cell (p := ⟨d, 0, none⟩) (.inr rfl)).trans (HC.out 0 _ rfl)
       have t1w9 : w9.cell? ⟨d, 1, none⟩ = _ := (KP9.cell (p := ⟨d, 1, none⟩) (.inr rfl)).trans (HC.out 1 _ rfl)
       have t2w9 : w9.cell? ⟨d, 2, none⟩ = _ := (KP9.cell (p := ⟨d, 2, none⟩) (.inr rfl)).trans (HC.out 2 _ rfl)
       have t3w9 : w9.cell? ⟨d, 3, none⟩ = _ := (KP9.cell (p := ⟨d, 3, none⟩) (.inr rfl)).trans (HC.out 3 _ rfl)
       have t4w9 : w9.cell? ⟨d, 4, none⟩ = _ := (KP9.cell (p := ⟨d, 4, none⟩) (.inr rfl)).trans (HC.out 4 _ rfl)
       have t5w9 : w9.cell? ⟨d, 5, none⟩ = _ := (KP9.cell (p := ⟨d, 5, none⟩) (.inr rfl)).trans (HC.out 5 _ rfl)
       clear hX9 hK9 KP9)))
  all_goals
    clear HN1 HN2 HN3 HNE HC
    go_wp2
    go_end0
    exact ⟨rfl, HX9.out, HK9.out⟩

set_option maxRecDepth 20000 in
set_option maxHeartbeats 8000000 in
theorem endAhead_button (K : Nat → Prop) (p : Nat) (st : BS) (w : World) (h : BX K w p st) (hl : st.opn.length ≤ 1000000) (hn : st.flts.length ≤ 1000000) (kd : Nat) (aa : Option Addr) (an ac : Nat) (sf : Bool) (dt : List UInt8) (a : Nat) :
    Calls Try.prog 57 #[.pointer (some ⟨p, 0, none⟩), tokV kd [98, 117, 116, 116, 111, 110] aa an ac sf dt a] w fun e w' => e = .returned (.tuple #[]) ∧ BX K w' p (st.finF (isIn [[98, 117, 116, 116, 111, 110]]) (isIn [[116, 101, 109, 112, 108, 97, 116, 101]]) a) ∧ Kept K w w' := by
  obtain ⟨W, hW⟩ : ∃ W, w.alloc (.cells #[.int .u8 (kd : Int), sv [98, 117, 116, 116, 111, 110], .slice aa an ac, .bool sf, sv dt, .int .i64 (a : Int)] 43) = W := ⟨_, rfl⟩
  obtain ⟨d, hd⟩ : ∃ d, w.heap.size = d := ⟨_, rfl⟩
  have kW : Kept (fun k => k < w.heap.size) w W := by rw [← hW]; exact (Kept.refl _ w).alloc (fun _ h => h) _
  have sW : W.heap.size = d + 1 := by rw [← hW, ← hd]; simp
  have hcW : ∀ i u, #[.int .u8 (kd : Int), sv [98, 117, 116, 116, 111, 110], .slice aa an ac, .bool sf, sv dt, .int .i64 (a : Int)].toList[i]? = some u → W.cell? ⟨d, i, none⟩ = some u := by
    intro i u hi
    rw [← hW, ← hd, cell_block (heap_alloc_new w _), ← Array.getElem?_toList]
    exact hi
  have HN1 : Hid (Nr (fun k => K k ∨ k = d) p st W W) := by
    refine ⟨h.more kW ?_ ?_, Kept.refl _ _⟩
    · rintro k (hk | rfl)
      · exact .inl hk
      · exact .inr (by omega)
    · rintro k (hk | rfl)
      · have := h.lt k hk; omega
      · omega
  have HK1 : Hid (Kept K w W) := kW.mono h.lt
  have HC : Hid (∀ i u, #[.int .u8 (kd : Int), sv [98, 117, 116, 116, 111, 110], .slice aa an ac, .bool sf, sv dt, .int .i64 (a : Int)].toList[i]? = some u → W.cell? ⟨d, i, none⟩ = some u) := hcW
  have HW : Hid (w.alloc (.cells #[.int .u8 (kd : Int), sv [98, 117, 116, 116, 111, 110], .slice aa an ac, .bool sf, sv dt, .int .i64 (a : Int)] 43) = W) := hW
  have HD : Hid (w.heap.size = d) := hd
  have t0W := hcW 0 _ rfl
  have t1W := hcW 1 _ rfl
  have t2W := hcW 2 _ rfl
  have t3W := hcW 3 _ rfl
  have t4W := hcW 4 _ rfl
  have t5W := hcW 5 _ rfl
  have u0W : ∀ o, (W.alloc o).cell? ⟨d, 0, none⟩ = _ := fun o => (Kept.cell ((Kept.refl (fun k => k < W.heap.size) W).alloc (fun _ h => h) o) (p := ⟨d, 0, none⟩) (HN1.out.bx.lt d (.inr rfl))).trans t0W
  have u1W : ∀ o, (W.alloc o).cell? ⟨d, 1, none⟩ = _ := fun o => (Kept.cell ((Kept.refl (fun k => k < W.heap.size) W).alloc (fun _ h => h) o) (p := ⟨d, 1, none⟩) (HN1.out.bx.lt d (.inr rfl))).trans t1W
  have u2W : ∀ o, (W.alloc o).cell? ⟨d, 2, none⟩ = _ := fun o => (Kept.cell ((Kept.refl (fun k => k < W.heap.size) W).alloc (fun _ h => h) o) (p := ⟨d, 2, none⟩) (HN1.out.bx.lt d (.inr rfl))).trans t2W
  have u3W : ∀ o, (W.alloc o).cell? ⟨d, 3, none⟩ = _ := fun o => (Kept.cell ((Kept.refl (fun k => k < W.heap.size) W).alloc (fun _ h => h) o) (p := ⟨d, 3, none⟩) (HN1.out.bx.lt d (.inr rfl))).trans t3W
  have u4W : ∀ o, (W.alloc o).cell? ⟨d, 4, none⟩ = _ := fun o => (Kept.cell ((Kept.refl (fun k => k < W.heap.size) W).alloc (fun _ h => h) o) (p := ⟨d, 4, none⟩) (HN1.out.bx.lt d (.inr rfl))).trans t4W
  have u5W : ∀ o, (W.alloc o).cell? ⟨d, 5, none⟩ = _ := fun o => (Kept.cell ((Kept.refl (fun k => k < W.heap.size) W).alloc (fun _ h => h) o) (p := ⟨d, 5, none⟩) (HN1.out.bx.lt d (.inr rfl))).trans t5W
  have v0W : ∀ o o', ((W.alloc o).alloc o').cell? ⟨d, 0, none⟩ = _ := fun o o' => (Kept.cell ((Kept.refl (fun k => k < (W.alloc o).heap.size) (W.alloc o)).alloc (fun _ h => h) o') (p := ⟨d, 0, none⟩) (by have := HN1.out.bx.lt d (.inr rfl); simp; omega)).trans (u0W o)
  have v1W : ∀ o o', ((W.alloc o).alloc o').cell? ⟨d, 1, none⟩ = _ := fun o o' => (Kept.cell ((Kept.refl (fun k => k < (W.alloc o).heap.size) (W.alloc o)).alloc (fun _ h => h) o') (p := ⟨d, 1, none⟩) (by have := HN1.out.bx.lt d (.inr rfl); simp; omega)).trans (u1W o)
  have v2W : ∀ o o', ((W.alloc o).alloc o').cell? ⟨d, 2, none⟩ = _ := fun o o' => (Kept.cell ((Kept.refl (fun k => k < (W.alloc o).heap.size) (W.alloc o)).alloc (fun _ h => h) o') (p := ⟨d, 2, none⟩) (by have := HN1.out.bx.lt d (.inr rfl); simp; omega)).trans (u2W o)
  have v3W : ∀ o o', ((W.alloc o).alloc o').cell? ⟨d, 3, none⟩ = _ := fun o o' => (Kept.cell ((Kept.refl (fun k => k < (W.alloc o).heap.size) (W.alloc o)).alloc (fun _ h => h) o') (p := ⟨d, 3, none⟩) (by have := HN1.out.bx.lt d (.inr rfl); simp; omega)).trans (u3W o)
  have v4W : ∀ o o', ((W.alloc o).alloc o').cell? ⟨d, 4, none⟩ = _ := fun o o' => (Kept.cell ((Kept.refl (fun k => k < (W.alloc o).heap.size) (W.alloc o)).alloc (fun _ h => h) o') (p := ⟨d, 4, none⟩) (by have := HN1.out.bx.lt d (.inr rfl); simp; omega)).trans (u4W o)
  have v5W : ∀ o o', ((W.alloc o).alloc o').cell? ⟨d, 5, none⟩ = _ := fun o o' => (Kept.cell ((Kept.refl (fun k => k < (W.alloc o).heap.size) (W.alloc o)).alloc (fun _ h => h) o') (p := ⟨d, 5, none⟩) (by have := HN1.out.bx.lt d (.inr rfl); simp; omega)).trans (u5W o)
  clear h hW hd kW sW hcW
  go_enter Try.func57, Try.ntmps57
  go_upto_region 21 with fail
  rw [HW.out, HD.out]
  clear HW HD
  go_region_held3 (fun w' => w'.cell? ⟨d, 0, none⟩ = some (.int .u8 (kd : Int)) ∧ w'.cell? ⟨d, 1, none⟩ = some (sv [98, 117, 116, 116, 111, 110]) ∧ w'.cell? ⟨d, 2, none⟩ = some (.slice aa an ac) ∧ w'.cell? ⟨d, 3, none⟩ = some (.bool sf) ∧ w'.cell? ⟨d, 4, none⟩ = some (sv dt) ∧ w'.cell? ⟨d, 5, none⟩ = some (.int .i64 (a : Int))) (go_keep) ((first
    | (go_at_call 60
       have guard := HN2
       go_must (refine (oneOf_is [[116, 101, 109, 112, 108, 97, 116, 101]] _ 1 _ (by decide) (by refine strs1 _ _ _ ?_ ?_ <;> (first | (simp; done) | (simp; omega) | (refine Nat.lt_of_lt_of_le ?_ k1.size; simp; done) | (refine Nat.lt_of_lt_of_le ?_ k1.size; simp; omega) | (refine (k1.cell ?_).trans ?_ <;> first | (simp; done) | (simp; omega))))).mono ?_)
       rintro e w3 ⟨⟨b2, rfl, o1⟩, k2⟩
       go_must (have HN3 : Hid (Nr (fun k => K k ∨ k = d) p st W w3) := Nr.kept (by repeat (first | exact HN2.out | refine Nr.drew ?_ | refine Nr.alloc ?_ _)) k2)
       have HO3 : Hid (Ans w3 (.func (.func 84) #[] #[.pointer (some ⟨b2, 0, none⟩)]) (isIn [[116, 101, 109, 112, 108, 97, 116, 101]])) := o1.ans
       go_must (have HOA : Hid (Ans w3 (.func (.func 84) #[] #[.pointer (some ⟨b1, 0, none⟩)]) (isIn [[98, 117, 116, 116, 111, 110]])) := Ans.kept (by repeat (first | exact HO2.out | refine Ans.drew ?_ | refine Ans.alloc ?_ _)) k2)
       have t0w3 : w3.cell? ⟨d, 0, none⟩ = _ := (HN3.out.kp.cell (p := ⟨d, 0, none⟩) (.inr rfl)).trans (HC.out 0 _ rfl)
       have t1w3 : w3.cell? ⟨d, 1, none⟩ = _ := (HN3.out.kp.cell (p := ⟨d, 1, none⟩) (.inr rfl)).trans (HC.out 1 _ rfl)
       have t2w3 : w3.cell? ⟨d, 2, none⟩ = _ := (HN3.out.kp.cell (p := ⟨d, 2, none⟩) (.inr rfl)).trans (HC.out 2 _ rfl)
       have t3w3 : w3.cell? ⟨d, 3, none⟩ = _ := (HN3.out.kp.cell (p := ⟨d, 3, none⟩) (.inr rfl)).trans (HC.out 3 _ rfl)
       have t4w3 : w3.cell? ⟨d, 4, none⟩ = _ := (HN3.out.kp.cell (p := ⟨d, 4, none⟩) (.inr rfl)).trans (HC.out 4 _ rfl)
       have t5w3 : w3.cell? ⟨d, 5, none⟩ = _ := (HN3.out.kp.cell (p := ⟨d, 5, none⟩) (.inr rfl)).trans (HC.out 5 _ rfl)
       clear o1 guard)
    | (go_at_call 60
       go_must (refine (oneOf_is [[98, 117, 116, 116, 111, 110]] _ 1 _ (by decide) (by refine strs1 _ _ _ ?_ ?_ <;> (first | (simp; done) | (simp; omega) | (refine Nat.lt_of_lt_of_le ?_ k0.size; simp; done) | (refine Nat.lt_of_lt_of_le ?_ k0.size; simp; omega) | (refine (k0.cell ?_).trans ?_ <;> first | (simp; done) | (simp; omega))))).mono ?_)
       rintro e w2 ⟨⟨b1, rfl, o1⟩, k1⟩
       go_must (have HN2 : Hid (Nr (fun k => K k ∨ k = d) p st W w2) := Nr.kept (by repeat (first | exact HN1.out | refine Nr.drew ?_ | refine Nr.alloc ?_ _)) k1)
       have HO2 : Hid (Ans w2 (.func (.func 84) #[] #[.pointer (some ⟨b1, 0, none⟩)]) (isIn [[98, 117, 116, 116, 111, 110]])) := o1.ans
       have t0w2 : w2.cell? ⟨d, 0, none⟩ = _ := (HN2.out.kp.cell (p := ⟨d, 0, none⟩) (.inr rfl)).trans (HC.out 0 _ rfl)
       have t1w2 : w2.cell? ⟨d, 1, none⟩ = _ := (HN2.out.kp.cell (p := ⟨d, 1, none⟩) (.inr rfl)).trans (HC.out 1 _ rfl)
       have t2w2 : w2.cell? ⟨d, 2, none⟩ = _ := (HN2.out.kp.cell (p := ⟨d, 2, none⟩) (.inr rfl)).trans (HC.out 2 _ rfl)
       have t3w2 : w2.cell? ⟨d, 3, none⟩ = _ := (HN2.out.kp.cell (p := ⟨d, 3, none⟩) (.inr rfl)).trans (HC.out 3 _ rfl)
       have t4w2 : w2.cell? ⟨d, 4, none⟩ = _ := (HN2.out.kp.cell (p := ⟨d, 4, none⟩) (.inr rfl)).trans (HC.out 4 _ rfl)
       have t5w2 : w2.cell? ⟨d, 5, none⟩ = _ := (HN2.out.kp.cell (p := ⟨d, 5, none⟩) (.inr rfl)).trans (HC.out 5 _ rfl)
       have u0w2 : ∀ o, (w2.alloc o).cell? ⟨d, 0, none⟩ = _ := fun o => (Kept.cell ((Kept.refl (fun k => k < w2.heap.size) w2).alloc (fun _ h => h) o) (p := ⟨d, 0, none⟩) (HN2.out.bx.lt d (.inr rfl))).trans t0w2
       have u1w2 : ∀ o, (w2.alloc o).cell? ⟨d, 1, none⟩ = _ := fun o => (Kept.cell ((Kept.refl (fun k => k < w2.heap.size) w2).alloc (fun _ h => h) o) (p := ⟨d, 1, none⟩) (HN2.out.bx.lt d (.inr rfl))).trans t1w2
       have u2w2 : ∀ o, (w2.alloc o).cell? ⟨d, 2, none⟩ = _ := fun o => (Kept.cell ((Kept.refl (fun k => k < w2.heap.size) w2).alloc (fun _ h => h) o) (p := ⟨d, 2, none⟩) (HN2.out.bx.lt d (.inr rfl))).trans t2w2
       have u3w2 : ∀ o, (w2.alloc o).cell? ⟨d, 3, none⟩ = _ := fun o => (Kept.cell ((Kept.refl (fun k => k < w2.heap.size) w2).alloc (fun _ h => h) o) (p := ⟨d, 3, none⟩) (HN2.out.bx.lt d (.inr rfl))).trans t3w2
       have u4w2 : ∀ o, (w2.alloc o).cell? ⟨d, 4, none⟩ = _ := fun o => (Kept.cell ((Kept.refl (fun k => k < w2.heap.size) w2).alloc (fun _ h => h) o) (p := ⟨d, 4, none⟩) (HN2.out.bx.lt d (.inr rfl))).trans t4w2
       have u5w2 : ∀ o, (w2.alloc o).cell? ⟨d, 5, none⟩ = _ := fun o => (Kept.cell ((Kept.refl (fun k => k < w2.heap.size) w2).alloc (fun _ h => h) o) (p := ⟨d, 5, none⟩) (HN2.out.bx.lt d (.inr rfl))).trans t5w2
       clear o1)
    | (go_at_call 59
       go_must (refine (end_any (fun k => K k ∨ k = d) p st _ HN3.out.bx hl _ _ _ _ HOA.out HO3.out).mono ?_)
       rintro e w4 ⟨⟨la, cap, rfl, -, -⟩, hX4, hK4⟩
       have HNE : Hid (Nr (fun k => K k ∨ k = d) p (st.fin (isIn [[98, 117, 116, 116, 111, 110]]) (isIn [[116, 101, 109, 112, 108, 97, 116, 101]])) W w4) := ⟨hX4, HN3.out.kp.trans hK4⟩
       have t0w4 : w4.cell? ⟨d, 0, none⟩ = _ := (HNE.out.kp.cell (p := ⟨d, 0, none⟩) (.inr rfl)).trans (HC.out 0 _ rfl)
       have t1w4 : w4.cell? ⟨d, 1, none⟩ = _ := (HNE.out.kp.cell (p := ⟨d, 1, none⟩) (.inr rfl)).trans (HC.out 1 _ rfl)
       have t2w4 : w4.cell? ⟨d, 2, none⟩ = _ := (HNE.out.kp.cell (p := ⟨d, 2, none⟩) (.inr rfl)).trans (HC.out 2 _ rfl)
       have t3w4 : w4.cell? ⟨d, 3, none⟩ = _ := (HNE.out.kp.cell (p := ⟨d, 3, none⟩) (.inr rfl)).trans (HC.out 3 _ rfl)
       have t4w4 : w4.cell? ⟨d, 4, none⟩ = _ := (HNE.out.kp.cell (p := ⟨d, 4, none⟩) (.inr rfl)).trans (HC.out 4 _ rfl)
       have t5w4 : w4.cell? ⟨d, 5, none⟩ = _ := (HNE.out.kp.cell (p := ⟨d, 5, none⟩) (.inr rfl)).trans (HC.out 5 _ rfl)
       clear hX4 hK4)
    | (go_at_call 81
       go_must (refine (faultClosed_any (fun k => K k ∨ k = d) p (st.fin (isIn [[98, 117, 116, 116, 111, 110]]) (isIn [[116, 101, 109, 112, 108, 97, 116, 101]])) _ (by repeat (first | exact HNE.out.bx | refine BX.drew ?_ | refine BX.alloc ?_ _)) (by rw [(fin_opn st (isIn [[98, 117, 116, 116, 111, 110]]) (isIn [[116, 101, 109, 112, 108, 97, 116, 101]])).2.1]; exact hn) kd [98, 117, 116, 116, 111, 110] aa an ac sf dt a _ _ _ (Nat.le_trans (ended_len _ _) hl)).mono ?_)
       rintro e w9 ⟨rfl, hX9, hK9⟩
       rw [finF_eq] at hX9
       have HX9 : Hid (BX K w9 p (st.finF (isIn [[98, 117, 116, 116, 111, 110]]) (isIn [[116, 101, 109, 112, 108, 97, 116, 101]]) a)) := hX9.weaken fun _ h => .inl h
       have HK9 : Hid (Kept K w w9) := HK1.out.trans ((HNE.out.kp.mono fun _ h => .inl h).trans (hK9.mono fun _ h => .inl h))
       have KP9 : Kept (fun k => K k ∨ k = d) W w9 := HNE.out.kp.trans hK9
       have t0w9 : w9.cell? ⟨d, 0, none⟩ = _ := (KP9.cell (p := ⟨d, 0, none⟩) (.inr rfl)).trans (HC.out 0 _ rfl)
       have t1w9 : w9.cell? ⟨d, 1, none⟩ = _ := (KP9.cell (p := ⟨d, 1, none⟩) (.inr rfl)).trans (HC.out 1 _ rfl)
       have t2w9 : w9.cell? ⟨d, 2, none⟩ = _ := (KP9.cell (p := ⟨d, 2, none⟩) (.inr rfl)).trans (HC.out 2 _ rfl)
       have t3w9 : w9.cell? ⟨d, 3, none⟩ = _ := (KP9.cell (p := ⟨d, 3, none⟩) (.inr rfl)).trans (HC.out 3 _ rfl)
       have t4w9 : w9.cell? ⟨d, 4, none⟩ = _ := (KP9.cell (p := ⟨d, 4, none⟩) (.inr rfl)).trans (HC.out 4 _ rfl)
       have t5w9 : w9.cell? ⟨d, 5, none⟩ = _ := (KP9.cell (p := ⟨d, 5, none⟩) (.inr rfl)).trans (HC.out 5 _ rfl)
       clear hX9 hK9 KP9)))
  all_goals
    clear HN1 HN2 HN3 HNE HC
    go_wp2
    go_end0
    exact ⟨rfl, HX9.out, HK9.out⟩

end Go.Proofs.Ytffllhohlfblnaa

namespace Go.Proofs.Ytffllhohlfblnaa
open Go.RowKit

theorem ba_ne {nm l : List UInt8} (h : nm ≠ l) : (ByteArray.toList ⟨nm.toArray⟩ == l) = false := by
  rw [ByteArray.toList_eq]
  simpa using h

set_option maxRecDepth 20000 in
set_option maxHeartbeats 1000000 in
theorem endAhead_else (K : Nat → Prop) (p : Nat) (st : BS) (w : World) (h : BX K w p st) (nm : List UInt8) (n0 : nm ≠ [108, 105]) (n1 : nm ≠ [100, 100]) (n2 : nm ≠ [100, 116]) (n3 : nm ≠ [111, 112, 116, 105, 111, 110]) (n4 : nm ≠ [111, 112, 116, 103, 114, 111, 117, 112]) (n5 : nm ≠ [104, 49]) (n6 : nm ≠ [104, 50]) (n7 : nm ≠ [104, 51]) (n8 : nm ≠ [104, 52]) (n9 : nm ≠ [104, 53]) (n10 : nm ≠ [104, 54]) (n11 : nm ≠ [97]) (n12 : nm ≠ [98, 117, 116, 116, 111, 110]) (kd : Nat) (aa : Option Addr) (an ac : Nat) (sf : Bool) (dt : List UInt8) (a : Nat) :
    Calls Try.prog 57 #[.pointer (some ⟨p, 0, none⟩), tokV kd nm aa an ac sf dt a] w fun e w' => e = .returned (.tuple #[]) ∧ BX K w' p st ∧ Kept K w w' := by
  replace n0 := ba_ne n0
  replace n1 := ba_ne n1
  replace n2 := ba_ne n2
  replace n3 := ba_ne n3
  replace n4 := ba_ne n4
  replace n5 := ba_ne n5
  replace n6 := ba_ne n6
  replace n7 := ba_ne n7
  replace n8 := ba_ne n8
  replace n9 := ba_ne n9
  replace n10 := ba_ne n10
  replace n11 := ba_ne n11
  replace n12 := ba_ne n12
  show Calls Try.prog 57 #[.pointer (some ⟨p, 0, none⟩), .agg #[.int .u8 (kd : Int), .string ⟨nm.toArray⟩, .slice aa an ac, .bool sf, sv dt, .int .i64 (a : Int)]] w _
  obtain ⟨S, hS⟩ : ∃ S : ByteArray, (⟨nm.toArray⟩ : ByteArray) = S := ⟨_, rfl⟩
  rw [hS]
  rw [hS] at n0
  rw [hS] at n1
  rw [hS] at n2
  rw [hS] at n3
  rw [hS] at n4
  rw [hS] at n5
  rw [hS] at n6
  rw [hS] at n7
  rw [hS] at n8
  rw [hS] at n9
  rw [hS] at n10
  rw [hS] at n11
  rw [hS] at n12
  have HX : Hid (BX K w p st) := h
  clear h hS
  go_enter Try.func57, Try.ntmps57
  go_wp2
  go_end0
  exact ⟨rfl, HX.out.alloc _, (Kept.refl K w).alloc HX.out.lt _⟩

theorem endAhead_any (K : Nat → Prop) (p : Nat) (st : BS) (w : World) (h : BX K w p st) (hl : st.opn.length ≤ 1000000) (hn : st.flts.length ≤ 1000000) (nm : List UInt8) (kd : Nat) (aa : Option Addr) (an ac : Nat) (sf : Bool) (dt : List UInt8) (a : Nat) :
    Calls Try.prog 57 #[.pointer (some ⟨p, 0, none⟩), tokV kd nm aa an ac sf dt a] w fun e w' => e = .returned (.tuple #[]) ∧ BX K w' p (st.first nm a) ∧ Kept K w w' := by
  unfold BS.first
  by_cases c0 : nm = [108, 105]
  · rw [if_pos c0]; subst c0; exact endAhead_li K p st w h hl kd aa an ac sf dt a
  rw [if_neg c0]
  by_cases c1 : nm = [100, 100] ∨ nm = [100, 116]
  · rw [if_pos c1]
    rcases c1 with rfl | rfl
    · exact endAhead_dd K p st w h hl kd aa an ac sf dt a
    · exact endAhead_dt K p st w h hl kd aa an ac sf dt a
  rw [if_neg c1]
  by_cases c2 : nm = [111, 112, 116, 105, 111, 110]
  · rw [if_pos c2]; subst c2; exact endAhead_option K p st w h hl kd aa an ac sf dt a
  rw [if_neg c2]
  by_cases c3 : nm = [111, 112, 116, 103, 114, 111, 117, 112]
  · rw [if_pos c3]; subst c3; exact endAhead_optgroup K p st w h hl kd aa an ac sf dt a
  rw [if_neg c3]
  by_cases c4 : isIn headL nm = true
  · rw [if_pos c4]
    have c4' : nm = [104, 49] ∨ nm = [104, 50] ∨ nm = [104, 51] ∨ nm = [104, 52] ∨ nm = [104, 53] ∨ nm = [104, 54] := by simpa [isIn, headL] using c4
    rcases c4' with rfl | rfl | rfl | rfl | rfl | rfl
    · exact endAhead_h1 K p st w h hl hn kd aa an ac sf dt a
    · exact endAhead_h2 K p st w h hl hn kd aa an ac sf dt a
    · exact endAhead_h3 K p st w h hl hn kd aa an ac sf dt a
    · exact endAhead_h4 K p st w h hl hn kd aa an ac sf dt a
    · exact endAhead_h5 K p st w h hl hn kd aa an ac sf dt a
    · exact endAhead_h6 K p st w h hl hn kd aa an ac sf dt a
  rw [if_neg c4]
  by_cases c5 : nm = [97] ∨ nm = [98, 117, 116, 116, 111, 110]
  · rw [if_pos c5]
    rcases c5 with rfl | rfl
    · exact endAhead_a K p st w h hl hn kd aa an ac sf dt a
    · exact endAhead_button K p st w h hl hn kd aa an ac sf dt a
  rw [if_neg c5]
  have c4' : ¬ (nm = [104, 49] ∨ nm = [104, 50] ∨ nm = [104, 51] ∨ nm = [104, 52] ∨ nm = [104, 53] ∨ nm = [104, 54]) := by simpa [isIn, headL] using c4
  simp only [not_or] at c1 c4' c5
  obtain ⟨d1, d2, d3, d4, d5, d6⟩ := c4'
  exact endAhead_else K p st w h nm c0 c1.1 c1.2 c2 c3 d1 d2 d3 d4 d5 d6 c5.1 c5.2 kd aa an ac sf dt a
end Go.Proofs.Ytffllhohlfblnaa
