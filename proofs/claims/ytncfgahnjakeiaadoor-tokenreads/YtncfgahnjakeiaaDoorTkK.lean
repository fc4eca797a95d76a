/-
  What comment, doctype and reference do to the reader.
-/
import Derived.Test.YtncfgahnjakeiaaDoorTkJ
namespace Go.Proofs.YtncfgahnjakeiaaDoor
open Go.RowKit

theorem cutYes (K : Nat → Prop) (p : Nat) (st : TS) (f : List UInt8) (hp : pre f st.rest = true) (hs : st.pl + st.rest.length ≤ 1000000) (w : World) (h : TX K w p st) :
    Calls Tryd.prog 47 #[.pointer (some ⟨p, 0, none⟩), sv f] w fun e w' => e = .returned (.bool true) ∧ TX K w' p (st.cut f.length) ∧ Kept K w w' := by
  have := cutIfX K p st w h f hs
  rw [hp] at this
  have e : st.cutIf f = st.cut f.length := by unfold TS.cutIf; rw [if_pos hp]
  rw [e] at this
  exact this
theorem cutNo (K : Nat → Prop) (p : Nat) (st : TS) (f : List UInt8) (hp : pre f st.rest = false) (hs : st.pl + st.rest.length ≤ 1000000) (w : World) (h : TX K w p st) :
    Calls Tryd.prog 47 #[.pointer (some ⟨p, 0, none⟩), sv f] w fun e w' => e = .returned (.bool false) ∧ TX K w' p st ∧ Kept K w w' := by
  have := cutIfX K p st w h f hs
  rw [hp] at this
  have e : st.cutIf f = st := by unfold TS.cutIf; rw [if_neg (by rw [hp]; decide)]
  rw [e] at this
  exact this
theorem cutCmtX (K : Nat → Prop) (p : Nat) (st : TS) (hs : st.pl + st.rest.length ≤ 1000000) (w : World) (h : TX K w p st) :
    Calls Tryd.prog 30 #[.pointer (some ⟨p, 0, none⟩), .func (.func 76) #[] #[]] w fun e w' => e = .returned (sv (st.front endsC)) ∧ TX K w' p (st.cutTo endsC) ∧ Kept K w w' :=
  h.lift fun K A h hK => cutTo_any K A p st w h hK hs endsC 76 #[] enter76 fun X hX l _ _ => by
    refine (cmt1_any l X).mono ?_
    rintro e w' ⟨rfl, rfl⟩
    exact ⟨rfl, Kept.refl _ _⟩

theorem Fit.front1 {b : Nat} {st : TS} (h : Fit b st) (p : List UInt8 → Bool) : (st.front p).length < 1000000 := by
  unfold TS.front
  rw [List.length_take]
  have := h.place
  omega
theorem Fit.dtEnd {b : Nat} {st : TS} (h : Fit b st) : Fit (b + 1) st.dtEnd := by
  unfold TS.dtEnd
  split
  · rename_i hp
    exact (h.cut (n := 1) (pre_length hp)).mono (by omega)
  · exact h.flt _ _

set_option maxRecDepth 20000 in
set_option maxHeartbeats 1000000 in
theorem dtX (K : Nat → Prop) (p : Nat) (st : TS) (w : World) (h : TX K w p st) (b : Nat) (hf : Fit b st) (hb : b ≤ 900000000) (a : Nat) :
    Calls Tryd.prog 51 #[.pointer (some ⟨p, 0, none⟩), .int .i64 a] w fun e w' => e = .returned (.tuple #[]) ∧ TX K w' p (st.doctype a) ∧ Kept K w w' := by
  have HD : Hid (st.doctype a = ((((st.cutTo (hdOut blk)).cutTo (hdIn [9, 10, 12, 32, 62])).cutTo (hdIn [62])).dtEnd).add ⟨5, nmL ((st.cutTo (hdOut blk)).front (hdIn [9, 10, 12, 32, 62])), [], false, [], a⟩) := rfl
  have f1 := hf.cutTo (hdOut blk)
  have r1 := noneX K p st w.drew h.drew blk
  have r2 := fun X hX => cutNoneX K p st X hX hf.le blk
  obtain ⟨s1, e1⟩ : ∃ s, st.cutTo (hdOut blk) = s := ⟨_, rfl⟩
  rw [e1] at HD f1
  simp only [e1] at r2
  have f2 := f1.cutTo (hdIn [9, 10, 12, 32, 62])
  have fr := f1.front1 (hdIn [9, 10, 12, 32, 62])
  have r3 := fun X hX => oneX K p s1 X hX [9, 10, 12, 32, 62]
  have r4 := fun X hX => cutOneX K p s1 X hX f1.le [9, 10, 12, 32, 62]
  obtain ⟨s2, e2⟩ : ∃ s, s1.cutTo (hdIn [9, 10, 12, 32, 62]) = s := ⟨_, rfl⟩
  obtain ⟨nm, en⟩ : ∃ s, s1.front (hdIn [9, 10, 12, 32, 62]) = s := ⟨_, rfl⟩
  rw [e2, en] at HD
  rw [e2] at f2
  rw [en] at fr
  simp only [e2, en] at r4
  have r5 := fun X hX => smallX K p s2 X hX nm fr
  have f3 := f2.cutTo (hdIn [62])
  have r6 := fun X hX => oneX K p s2 X hX [62]
  have r7 := fun X hX => cutOneX K p s2 X hX f2.le [62]
  obtain ⟨s3, e3⟩ : ∃ s, s2.cutTo (hdIn [62]) = s := ⟨_, rfl⟩
  rw [e3] at HD f3
  simp only [e3] at r7
  have f4 := f3.dtEnd
  have r9 := fun X hX => addX K p s3.dtEnd X hX (by have := f4.room; omega) 5 (nmL nm) [] false a
  have hlt := h.lt
  clear h hf e1 e2 e3 en
  by_cases hp : pre [62] s3.rest = true
  · have r8 := cutYes K p s3 [62] hp f3.le
    have e4 : s3.cut ([62] : List UInt8).length = s3.dtEnd := by unfold TS.dtEnd; rw [if_pos hp]; rfl
    rw [e4] at r8
    clear hp e4 f1 f2 f3 f4 fr
    go_enter Tryd.func51, Tryd.ntmps51
    go_wp2_with fail
    go_region_with (first | (refine r1.mono ?_; rintro e w1 ⟨rfl, t1, l1, c1, k1⟩; have r2 := r2 w1 t1 _ l1 c1) | (refine r2.mono ?_; rintro e w2 ⟨rfl, t2, k2⟩))
    have r3 := r3 _ t2.drew
    replace k2 : Kept K w w2 := (Kept.refl K w).drew.trans (k1.trans k2)
    clear t1 l1 c1 k1 r1 r2
    go_wp2_with fail
    go_region_with (first | (refine r3.mono ?_; rintro e w3 ⟨rfl, t3, l3, c3, k3⟩; have r4 := r4 w3 t3 _ l3 c3) | (refine r4.mono ?_; rintro e w4 ⟨rfl, t4, k4⟩; have r5 := r5 w4 t4) | (refine r5.mono ?_; rintro e w5 ⟨rfl, t5, k5⟩))
    have r6 := r6 _ t5.drew
    replace k5 : Kept K w w5 := ((k2.drew.trans k3).trans k4).trans k5
    clear t2 t3 l3 c3 k3 t4 k4 k2 r3 r4 r5
    go_wp2_with fail
    go_region_with (first | (refine r6.mono ?_; rintro e w6 ⟨rfl, t6, l6, c6, k6⟩; have r7 := r7 w6 t6 _ l6 c6) | (refine r7.mono ?_; rintro e w7 ⟨rfl, t7, k7⟩))
    have r8 := r8 w7 t7
    replace k7 : Kept K w w7 := (k5.drew.trans k6).trans k7
    clear t5 t6 l6 c6 k6 k5 r6 r7
    go_wp2_with fail
    refine r8.mono ?_
    rintro e w8 ⟨rfl, t8, k8⟩
    have r9 := r9 w8 t8
    clear t7 r8
    go_wp2_with fail
    refine r9.mono ?_
    rintro e w9 ⟨rfl, t9, k9⟩
    go_wp2
    go_end0
    exact ⟨rfl, by rw [HD.out]; exact t9, (k7.trans k8).trans k9⟩
  · have hp : pre [62] s3.rest = false := by simpa using hp
    have r8 := cutNo K p s3 [62] hp f3.le
    have e4 : s3.flt 6 s3.pl = s3.dtEnd := by unfold TS.dtEnd; rw [if_neg (by rw [hp]; decide)]
    have r10 := fun X hX => faultX K p s3 X hX (by have := f3.room; omega) 6 s3.pl
    rw [e4] at r10
    clear hp e4 f1 f2 f3 f4 fr
    go_enter Tryd.func51, Tryd.ntmps51
    go_wp2_with fail
    go_region_with (first | (refine r1.mono ?_; rintro e w1 ⟨rfl, t1, l1, c1, k1⟩; have r2 := r2 w1 t1 _ l1 c1) | (refine r2.mono ?_; rintro e w2 ⟨rfl, t2, k2⟩))
    have r3 := r3 _ t2.drew
    replace k2 : Kept K w w2 := (Kept.refl K w).drew.trans (k1.trans k2)
    clear t1 l1 c1 k1 r1 r2
    go_wp2_with fail
    go_region_with (first | (refine r3.mono ?_; rintro e w3 ⟨rfl, t3, l3, c3, k3⟩; have r4 := r4 w3 t3 _ l3 c3) | (refine r4.mono ?_; rintro e w4 ⟨rfl, t4, k4⟩; have r5 := r5 w4 t4) | (refine r5.mono ?_; rintro e w5 ⟨rfl, t5, k5⟩))
    have r6 := r6 _ t5.drew
    replace k5 : Kept K w w5 := ((k2.drew.trans k3).trans k4).trans k5
    clear t2 t3 l3 c3 k3 t4 k4 k2 r3 r4 r5
    go_wp2_with fail
    go_region_with (first | (refine r6.mono ?_; rintro e w6 ⟨rfl, t6, l6, c6, k6⟩; have r7 := r7 w6 t6 _ l6 c6) | (refine r7.mono ?_; rintro e w7 ⟨rfl, t7, k7⟩))
    have r8 := r8 w7 t7
    replace k7 : Kept K w w7 := (k5.drew.trans k6).trans k7
    clear t5 t6 l6 c6 k6 k5 r6 r7
    go_wp2_with fail
    refine r8.mono ?_
    rintro e w8 ⟨rfl, t8, k8⟩
    have r10 := r10 w8 t8
    obtain ⟨c0, c1⟩ := t8.cells
    clear t7 r8
    go_wp2_with fail
    refine r10.mono ?_
    rintro e w9 ⟨rfl, t9, k9⟩
    have r9 := r9 w9 t9
    clear c0 c1
    go_wp2_with fail
    refine r9.mono ?_
    rintro e w10 ⟨rfl, t10, k10⟩
    go_wp2
    go_end0
    exact ⟨rfl, by rw [HD.out]; exact t10, ((k7.trans k8).trans k9).trans k10⟩
end Go.Proofs.YtncfgahnjakeiaaDoor
