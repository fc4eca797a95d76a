/-
  Several texts, one behind the other: TkK, TkN, TkO.
-/
import Derived.Test.YtncfgahnjakeiaaDoorMd
section
namespace Go.Proofs.YtncfgahnjakeiaaDoor
open Go.RowKit

theorem cutYes (K : Nat → Prop) (p : Nat) (st : TS) (f : List UInt8) (hp : pre f st.rest = true) (hs : st.pl + st.rest.length ≤ 1000000) (w : World) (h : TX K w p st) :
    Calls Tryd.prog 47 #[.pointer (some ⟨p, 0, none⟩), sv f] w fun e w' => e = .returned (.bool true) ∧ TX K w' p (st.cut f.length) ∧ Kept K w w' := by
  have := cutIfX K p st w h f hs
  rw [hp] at this
  have e : st.cutIf f = st.cut f.length := by unfold TS.cutIf; rw [if_pos hp]
  rw [e] at this
  exact this
theorem cutNo (K : Nat → Prop) (p : Nat) (st : TS) (f : List UInt8) (hp : pre f st.rest = false) (hs : st.pl + st.rest.length ≤ 1000000) (w : World) (h : TX K w p st) :
    Calls Tryd.prog 47 #[.pointer (some ⟨p, 0, none⟩), sv f] w fun e w' => e = .returned (.bool false) ∧ TX K w' p st ∧ Kept K w w' := by
  have := cutIfX K p st w h f hs
  rw [hp] at this
  have e : st.cutIf f = st := by unfold TS.cutIf; rw [if_neg (by rw [hp]; decide)]
  rw [e] at this
  exact this
theorem cutCmtX (K : Nat → Prop) (p : Nat) (st : TS) (hs : st.pl + st.rest.length ≤ 1000000) (w : World) (h : TX K w p st) :
    Calls Tryd.prog 30 #[.pointer (some ⟨p, 0, none⟩), .func (.func 76) #[] #[]] w fun e w' => e = .returned (sv (st.front endsC)) ∧ TX K w' p (st.cutTo endsC) ∧ Kept K w w' :=
  h.lift fun K A h hK => cutTo_any K A p st w h hK hs endsC 76 #[] enter76 fun X hX l _ _ => by
    refine (cmt1_any l X).mono ?_
    rintro e w' ⟨rfl, rfl⟩
    exact ⟨rfl, Kept.refl _ _⟩

theorem Fit.front1 {b : Nat} {st : TS} (h : Fit b st) (p : List UInt8 → Bool) : (st.front p).length < 1000000 := by
  unfold TS.front
  rw [List.length_take]
  have := h.place
  omega
theorem Fit.dtEnd {b : Nat} {st : TS} (h : Fit b st) : Fit (b + 1) st.dtEnd := by
  unfold TS.dtEnd
  split
  · rename_i hp
    exact (h.cut (n := 1) (pre_length hp)).mono (by omega)
  · exact h.flt _ _

set_option maxRecDepth 20000 in
set_option maxHeartbeats 1000000 in
theorem dtX (K : Nat → Prop) (p : Nat) (st : TS) (w : World) (h : TX K w p st) (b : Nat) (hf : Fit b st) (hb : b ≤ 900000000) (a : Nat) :
    Calls Tryd.prog 51 #[.pointer (some ⟨p, 0, none⟩), .int .i64 a] w fun e w' => e = .returned (.tuple #[]) ∧ TX K w' p (st.doctype a) ∧ Kept K w w' := by
  have HD : Hid (st.doctype a = ((((st.cutTo (hdOut blk)).cutTo (hdIn [9, 10, 12, 32, 62])).cutTo (hdIn [62])).dtEnd).add ⟨5, nmL ((st.cutTo (hdOut blk)).front (hdIn [9, 10, 12, 32, 62])), [], false, [], a⟩) := rfl
  have f1 := hf.cutTo (hdOut blk)
  have r1 := noneX K p st w.drew h.drew blk
  have r2 := fun X hX => cutNoneX K p st X hX hf.le blk
  obtain ⟨s1, e1⟩ : ∃ s, st.cutTo (hdOut blk) = s := ⟨_, rfl⟩
  rw [e1] at HD f1
  simp only [e1] at r2
  have f2 := f1.cutTo (hdIn [9, 10, 12, 32, 62])
  have fr := f1.front1 (hdIn [9, 10, 12, 32, 62])
  have r3 := fun X hX => oneX K p s1 X hX [9, 10, 12, 32, 62]
  have r4 := fun X hX => cutOneX K p s1 X hX f1.le [9, 10, 12, 32, 62]
  obtain ⟨s2, e2⟩ : ∃ s, s1.cutTo (hdIn [9, 10, 12, 32, 62]) = s := ⟨_, rfl⟩
  obtain ⟨nm, en⟩ : ∃ s, s1.front (hdIn [9, 10, 12, 32, 62]) = s := ⟨_, rfl⟩
  rw [e2, en] at HD
  rw [e2] at f2
  rw [en] at fr
  simp only [e2, en] at r4
  have r5 := fun X hX => smallX K p s2 X hX nm fr
  have f3 := f2.cutTo (hdIn [62])
  have r6 := fun X hX => oneX K p s2 X hX [62]
  have r7 := fun X hX => cutOneX K p s2 X hX f2.le [62]
  obtain ⟨s3, e3⟩ : ∃ s, s2.cutTo (hdIn [62]) = s := ⟨_, rfl⟩
  rw [e3] at HD f3
  simp only [e3] at r7
  have f4 := f3.dtEnd
  have r9 := fun X hX => addX K p s3.dtEnd X hX (by have := f4.room; omega) 5 (nmL nm) [] false a
  have hlt := h.lt
  clear h hf e1 e2 e3 en
  by_cases hp : pre [62] s3.rest = true
  · have r8 := cutYes K p s3 [62] hp f3.le
    have e4 : s3.cut ([62] : List UInt8).length = s3.dtEnd := by unfold TS.dtEnd; rw [if_pos hp]; rfl
    rw [e4] at r8
    clear hp e4 f1 f2 f3 f4 fr
    go_enter Tryd.func51, Tryd.ntmps51
    go_wp2_with fail
    go_region_with (first | (refine r1.mono ?_; rintro e w1 ⟨rfl, t1, l1, c1, k1⟩; have r2 := r2 w1 t1 _ l1 c1) | (refine r2.mono ?_; rintro e w2 ⟨rfl, t2, k2⟩))
    have r3 := r3 _ t2.drew
    replace k2 : Kept K w w2 := (Kept.refl K w).drew.trans (k1.trans k2)
    clear t1 l1 c1 k1 r1 r2
    go_wp2_with fail
    go_region_with (first | (refine r3.mono ?_; rintro e w3 ⟨rfl, t3, l3, c3, k3⟩; have r4 := r4 w3 t3 _ l3 c3) | (refine r4.mono ?_; rintro e w4 ⟨rfl, t4, k4⟩; have r5 := r5 w4 t4) | (refine r5.mono ?_; rintro e w5 ⟨rfl, t5, k5⟩))
    have r6 := r6 _ t5.drew
    replace k5 : Kept K w w5 := ((k2.drew.trans k3).trans k4).trans k5
    clear t2 t3 l3 c3 k3 t4 k4 k2 r3 r4 r5
    go_wp2_with fail
    go_region_with (first | (refine r6.mono ?_; rintro e w6 ⟨rfl, t6, l6, c6, k6⟩; have r7 := r7 w6 t6 _ l6 c6) | (refine r7.mono ?_; rintro e w7 ⟨rfl, t7, k7⟩))
    have r8 := r8 w7 t7
    replace k7 : Kept K w w7 := (k5.drew.trans k6).trans k7
    clear t5 t6 l6 c6 k6 k5 r6 r7
    go_wp2_with fail
    refine r8.mono ?_
    rintro e w8 ⟨rfl, t8, k8⟩
    have r9 := r9 w8 t8
    clear t7 r8
    go_wp2_with fail
    refine r9.mono ?_
    rintro e w9 ⟨rfl, t9, k9⟩
    go_wp2
    go_end0
    exact ⟨rfl, by rw [HD.out]; exact t9, (k7.trans k8).trans k9⟩
  · have hp : pre [62] s3.rest = false := by simpa using hp
    have r8 := cutNo K p s3 [62] hp f3.le
    have e4 : s3.flt 6 s3.pl = s3.dtEnd := by unfold TS.dtEnd; rw [if_neg (by rw [hp]; decide)]
    have r10 := fun X hX => faultX K p s3 X hX (by have := f3.room; omega) 6 s3.pl
    rw [e4] at r10
    clear hp e4 f1 f2 f3 f4 fr
    go_enter Tryd.func51, Tryd.ntmps51
    go_wp2_with fail
    go_region_with (first | (refine r1.mono ?_; rintro e w1 ⟨rfl, t1, l1, c1, k1⟩; have r2 := r2 w1 t1 _ l1 c1) | (refine r2.mono ?_; rintro e w2 ⟨rfl, t2, k2⟩))
    have r3 := r3 _ t2.drew
    replace k2 : Kept K w w2 := (Kept.refl K w).drew.trans (k1.trans k2)
    clear t1 l1 c1 k1 r1 r2
    go_wp2_with fail
    go_region_with (first | (refine r3.mono ?_; rintro e w3 ⟨rfl, t3, l3, c3, k3⟩; have r4 := r4 w3 t3 _ l3 c3) | (refine r4.mono ?_; rintro e w4 ⟨rfl, t4, k4⟩; have r5 := r5 w4 t4) | (refine r5.mono ?_; rintro e w5 ⟨rfl, t5, k5⟩))
    have r6 := r6 _ t5.drew
    replace k5 : Kept K w w5 := ((k2.drew.trans k3).trans k4).trans k5
    clear t2 t3 l3 c3 k3 t4 k4 k2 r3 r4 r5
    go_wp2_with fail
    go_region_with (first | (refine r6.mono ?_; rintro e w6 ⟨rfl, t6, l6, c6, k6⟩; have r7 := r7 w6 t6 _ l6 c6) | (refine r7.mono ?_; rintro e w7 ⟨rfl, t7, k7⟩))
    have r8 := r8 w7 t7
    replace k7 : Kept K w w7 := (k5.drew.trans k6).trans k7
    clear t5 t6 l6 c6 k6 k5 r6 r7
    go_wp2_with fail
    refine r8.mono ?_
    rintro e w8 ⟨rfl, t8, k8⟩
    have r10 := r10 w8 t8
    obtain ⟨c0, c1⟩ := t8.cells
    clear t7 r8
    go_wp2_with fail
    refine r10.mono ?_
    rintro e w9 ⟨rfl, t9, k9⟩
    have r9 := r9 w9 t9
    clear c0 c1
    go_wp2_with fail
    refine r9.mono ?_
    rintro e w10 ⟨rfl, t10, k10⟩
    go_wp2
    go_end0
    exact ⟨rfl, by rw [HD.out]; exact t10, ((k7.trans k8).trans k9).trans k10⟩
end Go.Proofs.YtncfgahnjakeiaaDoor
end
section
namespace Go.Proofs.YtncfgahnjakeiaaDoor
open Go.RowKit

theorem info9 : (Tryd.prog.info? 9).map (·.size) = some 1 := by kernel_rfl
theorem run_q0 (W : World) : (Instr.index 101 (.agg #[.string ⟨#[34]⟩, .string ⟨#[39]⟩]) (.int .i64 0)).run Tryd.prog W = .ok (.string ⟨#[34]⟩) W := by
  obtain ⟨i, hi, hz⟩ := Option.map_eq_some_iff.1 info9
  have hu := run_underlying (P := Tryd.prog) Tryd.underlying101 W
  simp [Instr.index, asIntOf, hu, part, isAgg, sizeOf, typeInfo, hi, hz]
theorem run_q1 (W : World) : (Instr.index 101 (.agg #[.string ⟨#[34]⟩, .string ⟨#[39]⟩]) (.int .i64 1)).run Tryd.prog W = .ok (.string ⟨#[39]⟩) W := by
  obtain ⟨i, hi, hz⟩ := Option.map_eq_some_iff.1 info9
  have hu := run_underlying (P := Tryd.prog) Tryd.underlying101 W
  simp [Instr.index, asIntOf, hu, part, isAgg, sizeOf, typeInfo, hi, hz]

set_option maxRecDepth 20000 in
set_option maxHeartbeats 2000000 in
theorem valueX (K : Nat → Prop) (p : Nat) (st : TS) (w : World) (h : TX K w p st) (b : Nat) (hf : Fit b st) (hb : b ≤ 900000000) :
    Calls Tryd.prog 90 #[.pointer (some ⟨p, 0, none⟩)] w fun e w' => e = .returned (.tuple #[sv st.value.v, .bool st.value.ok]) ∧ TX K w' p st.value.st ∧ Kept K w w' := by
  have f1 := hf.cutTo (hdOut blk)
  have r1 := noneX K p st w.drew h.drew blk
  have r2 := fun X hX => cutNoneX K p st X hX hf.le blk
  have HV : Hid (st.value = if pre [61] (st.cutTo (hdOut blk)).rest = true then (((st.cutTo (hdOut blk)).cut 1).cutTo (hdOut blk)).val2 else ⟨st.cutTo (hdOut blk), [], true⟩) := rfl
  obtain ⟨s1, e1⟩ : ∃ s, st.cutTo (hdOut blk) = s := ⟨_, rfl⟩
  rw [e1] at HV f1
  simp only [e1] at r2
  obtain ⟨V, eV⟩ : ∃ V, st.value = V := ⟨_, rfl⟩
  rw [eV] at HV ⊢
  clear e1 eV h hf
  by_cases hp : pre [61] s1.rest = true
  · have r3 := cutYes K p s1 [61] hp f1.le
    have e2 : s1.cut ([61] : List UInt8).length = s1.cut 1 := rfl
    rw [e2] at r3
    have f2 := (f1.cut (n := 1) (pre_length hp)).mono (b' := b) (by omega)
    rw [if_pos hp] at HV
    obtain ⟨s2, e3⟩ : ∃ s, s1.cut 1 = s := ⟨_, rfl⟩
    rw [e3] at HV f2
    simp only [e3] at r3
    have f3 := f2.cutTo (hdOut blk)
    have r4 := fun X hX => noneX K p s2 X hX blk
    have r5 := fun X hX => cutNoneX K p s2 X hX f2.le blk
    obtain ⟨s3, e4⟩ : ∃ s, s2.cutTo (hdOut blk) = s := ⟨_, rfl⟩
    rw [e4] at HV f3
    simp only [e4] at r5
    clear e2 e3 e4 hp f1 f2
    go_enter Tryd.func90, Tryd.ntmps90
    go_wp2_with fail
    go_region_with (first | (refine r1.mono ?_; rintro e w1 ⟨rfl, t1, l1, c1, k1⟩; have r2 := r2 w1 t1 _ l1 c1) | (refine r2.mono ?_; rintro e w2 ⟨rfl, t2, k2⟩))
    have r3 := r3 _ t2
    replace k2 : Kept K w w2 := (Kept.refl K w).drew.trans (k1.trans k2)
    clear t1 l1 c1 k1 r1 r2
    go_wp2_with fail
    refine r3.mono ?_
    rintro e w3 ⟨rfl, t3, k3⟩
    have r4 := r4 _ t3.drew
    clear r3
    go_wp2_with fail
    go_region_with (first | (refine r4.mono ?_; rintro e w4 ⟨rfl, t4, l4, c4, k4⟩; have r5 := r5 w4 t4 _ l4 c4) | (refine r5.mono ?_; rintro e w5 ⟨rfl, t5, k5⟩))
    replace k5 : Kept K w w5 := ((k2.trans k3).drew.trans k4).trans k5
    clear t2 t3 t4 l4 c4 k4 k3 k2 r4 r5
    go_wp2_with fail
    go_loopg [23] 2 (fun gm i wr => ∃ k : Nat, gm = 2 - k ∧ k ≤ 2 ∧ i = .int .i64 k ∧ (1 ≤ k → pre [34] s3.rest = false) ∧ (2 ≤ k → pre [39] s3.rest = false) ∧ TX K wr p s3 ∧ Kept K w wr)
    case atStart => exact ⟨0, rfl, by omega, rfl, fun h => by omega, fun h => by omega, t5, k5⟩
    case round =>
      clear t5 k5
      obtain ⟨k, hgk, hk, rfl, q1, q2, t6, k6⟩ := hrel
      have hx0 := run_q0 wr
      have hx1 := run_q1 wr
      have cases : k = 0 ∨ k = 1 ∨ k = 2 := by omega
      rcases cases with rfl | rfl | rfl
      · by_cases hq : pre [34] s3.rest = true
        · have r6 := cutYes K p s3 [34] hq f3.le wr t6
          have f4 := (f3.cut (n := 1) (pre_length hq)).mono (b' := b) (by omega)
          have e5 : s3.cut ([34] : List UInt8).length = s3.cut 1 := rfl
          rw [e5] at r6
          replace HV : Hid (V = ⟨((s3.cut 1).cutTo (hdIn [34])).cutIf [34], (s3.cut 1).front (hdIn [34]), pre [34] ((s3.cut 1).cutTo (hdIn [34])).rest⟩) := by
            show V = _
            rw [HV.out]
            unfold TS.val2
            rw [if_pos hq]
            rfl
          obtain ⟨s4, e6⟩ : ∃ s, s3.cut 1 = s := ⟨_, rfl⟩
          rw [e6] at HV f4
          simp only [e6] at r6
          have f5 := f4.cutTo (hdIn [34])
          have r7 := fun X hX => oneX K p s4 X hX [34]
          have r8 := fun X hX => cutOneX K p s4 X hX f4.le [34]
          obtain ⟨s5, e7⟩ : ∃ s, s4.cutTo (hdIn [34]) = s := ⟨_, rfl⟩
          obtain ⟨v, ev⟩ : ∃ s, s4.front (hdIn [34]) = s := ⟨_, rfl⟩
          rw [e7, ev] at HV
          rw [e7] at f5
          simp only [e7, ev] at r8
          have r9 := fun X hX => cutIfX K p s5 X hX [34] f5.le
          obtain ⟨g, eg⟩ : ∃ g, pre [34] s5.rest = g := ⟨_, rfl⟩
          obtain ⟨s6, e8⟩ : ∃ s, s5.cutIf [34] = s := ⟨_, rfl⟩
          rw [eg, e8] at HV
          simp only [eg, e8] at r9
          clear e5 e6 e7 e8 ev eg hq q1 q2 t6 f3 f4 f5
          go_wp2_with fail
          refine r6.mono ?_
          rintro e w6 ⟨rfl, t6, k7⟩
          have r7 := r7 _ t6.drew
          clear r6
          go_wp2_with fail
          go_region_with (first | (refine r7.mono ?_; rintro e w7 ⟨rfl, t7, l7, c7, k8⟩; have r8 := r8 w7 t7 _ l7 c7) | (refine r8.mono ?_; rintro e w8 ⟨rfl, t8, k9⟩))
          have r9 := r9 _ t8
          replace k9 : Kept K w w8 := ((k6.trans k7).drew.trans k8).trans k9
          clear t7 l7 c7 k8 k7 k6 r7 r8 t6
          go_wp2_with fail
          refine r9.mono ?_
          rintro e w9 ⟨rfl, t9, k10⟩
          go_wp2
          go_ret2
          rw [HV.out]
          exact ⟨rfl, t9, k9.trans k10⟩
        · replace hq : pre [34] s3.rest = false := by simpa using hq
          have r6 := cutNo K p s3 [34] hq f3.le wr t6
          clear t6
          go_wp2_with fail
          refine r6.mono ?_
          rintro e w6 ⟨rfl, t6, k7⟩
          go_wp2
          go_roundg (2 - 1)
          case rel => exact ⟨1, rfl, by omega, by go_num, fun _ => hq, fun h => by omega, t6, k6.trans k7⟩
          case measure => omega
      · by_cases hq : pre [39] s3.rest = true
        · have r6 := cutYes K p s3 [39] hq f3.le wr t6
          have f4 := (f3.cut (n := 1) (pre_length hq)).mono (b' := b) (by omega)
          have e5 : s3.cut ([39] : List UInt8).length = s3.cut 1 := rfl
          rw [e5] at r6
          replace HV : Hid (V = ⟨((s3.cut 1).cutTo (hdIn [39])).cutIf [39], (s3.cut 1).front (hdIn [39]), pre [39] ((s3.cut 1).cutTo (hdIn [39])).rest⟩) := by
            show V = _
            rw [HV.out]
            unfold TS.val2
            rw [if_neg (by rw [q1 (by omega)]; decide), if_pos hq]
            rfl
          obtain ⟨s4, e6⟩ : ∃ s, s3.cut 1 = s := ⟨_, rfl⟩
          rw [e6] at HV f4
          simp only [e6] at r6
          have f5 := f4.cutTo (hdIn [39])
          have r7 := fun X hX => oneX K p s4 X hX [39]
          have r8 := fun X hX => cutOneX K p s4 X hX f4.le [39]
          obtain ⟨s5, e7⟩ : ∃ s, s4.cutTo (hdIn [39]) = s := ⟨_, rfl⟩
          obtain ⟨v, ev⟩ : ∃ s, s4.front (hdIn [39]) = s := ⟨_, rfl⟩
          rw [e7, ev] at HV
          rw [e7] at f5
          simp only [e7, ev] at r8
          have r9 := fun X hX => cutIfX K p s5 X hX [39] f5.le
          obtain ⟨g, eg⟩ : ∃ g, pre [39] s5.rest = g := ⟨_, rfl⟩
          obtain ⟨s6, e8⟩ : ∃ s, s5.cutIf [39] = s := ⟨_, rfl⟩
          rw [eg, e8] at HV
          simp only [eg, e8] at r9
          clear e5 e6 e7 e8 ev eg hq q1 q2 t6 f3 f4 f5
          go_wp2_with fail
          refine r6.mono ?_
          rintro e w6 ⟨rfl, t6, k7⟩
          have r7 := r7 _ t6.drew
          clear r6
          go_wp2_with fail
          go_region_with (first | (refine r7.mono ?_; rintro e w7 ⟨rfl, t7, l7, c7, k8⟩; have r8 := r8 w7 t7 _ l7 c7) | (refine r8.mono ?_; rintro e w8 ⟨rfl, t8, k9⟩))
          have r9 := r9 _ t8
          replace k9 : Kept K w w8 := ((k6.trans k7).drew.trans k8).trans k9
          clear t7 l7 c7 k8 k7 k6 r7 r8 t6
          go_wp2_with fail
          refine r9.mono ?_
          rintro e w9 ⟨rfl, t9, k10⟩
          go_wp2
          go_ret2
          rw [HV.out]
          exact ⟨rfl, t9, k9.trans k10⟩
        · replace hq : pre [39] s3.rest = false := by simpa using hq
          have r6 := cutNo K p s3 [39] hq f3.le wr t6
          clear t6
          go_wp2_with fail
          refine r6.mono ?_
          rintro e w6 ⟨rfl, t6, k7⟩
          go_wp2
          go_roundg (2 - 2)
          case rel => exact ⟨2, rfl, by omega, by go_num, fun _ => q1 (by omega), fun _ => hq, t6, k6.trans k7⟩
          case measure => omega
      · have z1 := q1 (by omega)
        have z2 := q2 (by omega)
        have r6 : Calls Tryd.prog 52 #[sv s3.rest, .string ⟨#[62]⟩] wr fun e w' => e = .returned (.bool (pre [62] s3.rest)) ∧ w' = wr := pre_any ⟨s3.rest.toArray⟩ ⟨#[62]⟩ wr
        obtain ⟨c0, c1⟩ := t6.cells
        replace HV : Hid (V = if pre [62] s3.rest = true then ⟨s3.flt 5 s3.pl, [], true⟩ else ⟨s3.cutTo (hdIn [9, 10, 12, 32, 62]), s3.front (hdIn [9, 10, 12, 32, 62]), true⟩) := by
          show V = _
          rw [HV.out]
          unfold TS.val2
          rw [if_neg (by rw [z1]; decide), if_neg (by rw [z2]; decide)]
        clear z1 z2 q1 q2
        by_cases hq : pre [62] s3.rest = true
        · rw [hq] at r6
          rw [if_pos hq] at HV
          have r7 := fun X hX => faultX K p s3 X hX (by have := f3.room; omega) 5 s3.pl
          clear hq f3
          go_wp2_with fail
          refine r6.mono ?_
          rintro e w6 ⟨rfl, rfl⟩
          have r7 := r7 _ t6
          clear r6 t6
          go_wp2_with fail
          refine r7.mono ?_
          rintro e w7 ⟨rfl, t7, k7⟩
          go_wp2
          go_ret2
          rw [HV.out]
          exact ⟨rfl, t7, k6.trans k7⟩
        · replace hq : pre [62] s3.rest = false := by simpa using hq
          rw [hq] at r6
          rw [if_neg (by rw [hq]; decide)] at HV
          have r7 := fun X hX => oneX K p s3 X hX [9, 10, 12, 32, 62]
          have r8 := fun X hX => cutOneX K p s3 X hX f3.le [9, 10, 12, 32, 62]
          obtain ⟨s5, e7⟩ : ∃ s, s3.cutTo (hdIn [9, 10, 12, 32, 62]) = s := ⟨_, rfl⟩
          obtain ⟨v, ev⟩ : ∃ s, s3.front (hdIn [9, 10, 12, 32, 62]) = s := ⟨_, rfl⟩
          rw [e7, ev] at HV
          simp only [e7, ev] at r8
          clear hq f3 e7 ev
          go_wp2_with fail
          refine r6.mono ?_
          rintro e w6 ⟨rfl, rfl⟩
          have r7 := r7 _ t6.drew
          clear r6 t6 c0 c1
          go_wp2_with fail
          go_region_with (first | (refine r7.mono ?_; rintro e w7 ⟨rfl, t7, l7, c7, k8⟩; have r8 := r8 w7 t7 _ l7 c7) | (refine r8.mono ?_; rintro e w8 ⟨rfl, t8, k9⟩))
          go_wp2
          go_ret2
          rw [HV.out]
          exact ⟨rfl, t8, (k6.drew.trans k8).trans k9⟩
  · replace hp : pre [61] s1.rest = false := by simpa using hp
    have r3 := cutNo K p s1 [61] hp f1.le
    rw [if_neg (by rw [hp]; decide)] at HV
    clear hp f1
    go_enter Tryd.func90, Tryd.ntmps90
    go_wp2_with fail
    go_region_with (first | (refine r1.mono ?_; rintro e w1 ⟨rfl, t1, l1, c1, k1⟩; have r2 := r2 w1 t1 _ l1 c1) | (refine r2.mono ?_; rintro e w2 ⟨rfl, t2, k2⟩))
    have r3 := r3 _ t2
    replace k2 : Kept K w w2 := (Kept.refl K w).drew.trans (k1.trans k2)
    clear t1 l1 c1 k1 r1 r2
    go_wp2_with fail
    refine r3.mono ?_
    rintro e w3 ⟨rfl, t3, k3⟩
    go_wp2
    go_ret2
    rw [HV.out]
    exact ⟨rfl, t3, k2.trans k3⟩
end Go.Proofs.YtncfgahnjakeiaaDoor
end
section
namespace Go.Proofs.YtncfgahnjakeiaaDoor
open Go.RowKit

theorem TK.move {K K' A : Nat → Prop} {w w' : World} {p : Nat} {st : TS} (h : TK K A w p st) (hb : ∀ g, g < w.heap.size → ¬ K g → w'.heap[g]? = w.heap[g]?) (hK : ∀ g, K' g → g < w.heap.size → K g) (hA : ∀ k, A k → K' k) (hk : Kept A w w') : TK K' A w' p st := by
  obtain ⟨h1, _, ta, tc, tcs, fa, fc, bp, ba, bc, hp, hq, h2, h3, h4, h5⟩ := h
  refine ⟨fun hh => h1 (hK _ hh (lt_block hp)), hA, ta, tc, tcs, fa, fc, bp, ba, bc, ?_, hq, ?_, h3.kept hk (fun _ h => h), ?_, ?_⟩
  · rw [hb p (lt_block hp) h1]; exact hp
  · refine h2.to (fun g hg => ?_) (fun g hg => hb g (h2.out hg).2 fun hh => (h2.out hg).1 (.inl hh))
    rintro (hh | hh)
    · exact (h2.out hg).1 (.inl (hK _ hh (h2.out hg).2))
    · exact (h2.out hg).1 (.inr hh)
  · refine h4.to (fun g hg => ?_) (fun g hg => hb g (h4.out hg).2 fun hh => (h4.out hg).1 (.inl hh))
    rintro (hh | hh)
    · exact (h4.out hg).1 (.inl (hK _ hh (h4.out hg).2))
    · exact (h4.out hg).1 (.inr hh)
  · refine h5.to (fun g hg => ?_) (fun g hg => hb g (h5.out hg).2 fun hh => (h5.out hg).1 (.inl hh))
    rintro (hh | hh)
    · exact (h5.out hg).1 (.inl (hK _ hh (h5.out hg).2))
    · exact (h5.out hg).1 (.inr hh)

theorem OwnZ.ats {K : Nat → Prop} {w : World} {aa : Option Addr} {ac : Nat} {attrs : List Atr} (ho : OwnZ K w 36 2 aa attrs.length ac (atrCells attrs)) : AtsIn (fun k => K k ∨ blkOf aa k) w aa attrs := by
  intro j hj
  obtain ⟨g1, g2⟩ := atrCells_get attrs j hj
  obtain ⟨g, e1, c1⟩ := ho.cell g1
  obtain ⟨g', e2, c2⟩ := ho.cell g2
  rw [e1] at e2
  injection e2 with e2
  injection e2 with e2
  subst e2
  exact ⟨g, e1, .inr e1, c1, c2⟩

/-- An attribute is appended. -/
theorem TX.appA {K : Nat → Prop} {w : World} {p : Nat} {st : TS} {aa : Option Addr} {ac : Nat} {attrs : List Atr} (h : TX (fun k => K k ∨ blkOf aa k) w p st) (ho : OwnZ K w 36 2 aa attrs.length ac (atrCells attrs)) (hn : attrs.length ≤ 100) (h0 : K 0) (h1 : K 1) (a : Atr) :
    ∃ aa' ac' w', (Builtin.append_ #[27, 27] 27 #[.slice aa attrs.length ac, .slice (some ⟨w.heap.size, 0, none⟩) 1 1]).run Tryd.prog (w.alloc (.cells #[sv a.name, sv a.value] 36)) = .ok (.slice aa' (attrs.length + 1) ac') w' ∧
      TX (fun k => K k ∨ blkOf aa' k) w' p st ∧ OwnZ K w' 36 2 aa' (attrs.length + 1) ac' (atrCells (attrs ++ [a])) ∧ Kept K w w' := by
  obtain ⟨i, hi, hip⟩ := Option.map_eq_some_iff.1 infoA
  have hz : i.zero = some (.agg #[.string ⟨#[]⟩, .string ⟨#[]⟩]) := congrArg (·.1) hip
  have hsz : i.size = 2 := congrArg (·.2.1) hip
  have hby : i.bytes = 32 := congrArg (·.2.2) hip
  obtain ⟨W, hW⟩ : ∃ W, w.alloc (.cells #[sv a.name, sv a.value] 36) = W := ⟨_, rfl⟩
  rw [hW]
  have hsrc : Src Tryd.prog 2 27 (.slice (some ⟨w.heap.size, 0, none⟩) 1 1) 1 [sv a.name, sv a.value] W := by
    rw [← hW]
    exact src_newZ w w.heap.size [sv a.name, sv a.value] _ Tryd.underlying27 (by intro u hu; simp at hu; rcases hu with rfl | rfl <;> rfl) rfl rfl
  have keep : ∀ g, g < w.heap.size → W.heap[g]? = w.heap[g]? := fun g hg => by rw [← hW]; exact Below.heap_alloc _ _ _ hg
  have hsW : w.heap.size ≤ W.heap.size := by rw [← hW]; simp
  obtain ⟨aa', ac', w', hr, ho', hk⟩ := run_appZ (P := Tryd.prog) (K := fun k => k < w.heap.size ∧ ¬ blkOf aa k) W 27 27 27 36 i _ Tryd.underlying27 hi hz 2 hsz rfl (by omega)
    (ho.to (w' := W) (fun g hg hh => hh.2 hg) (fun g hg => keep g (ho.out hg).2)) _ _ hsrc (fun g hg => Nat.lt_of_lt_of_le hg.1 hsW) (by omega)
  have hk2 : Kept (fun k => k < w.heap.size ∧ ¬ blkOf aa k) w w' := by
    refine Kept.trans ?_ hk
    rw [← hW]
    exact (Kept.refl _ w).alloc (fun _ h => h.1) _
  obtain ⟨⟨t1, _, _⟩, l1, A, l2, l3⟩ := h
  have hKa : ∀ k, K k → k < w.heap.size ∧ ¬ blkOf aa k := fun k hk => ⟨l1 k (.inl hk), fun hh => (ho.out hh).1 hk⟩
  have hAa : ∀ k, A k → k < w.heap.size ∧ ¬ blkOf aa k := fun k hk => ⟨(l2 k hk).1, fun hh => (l2 k hk).2 (.inr hh)⟩
  have hnew : ∀ g, blkOf aa' g → g < w.heap.size → blkOf aa g := fun g hg hl => by
    have := (ho'.out hg).1
    exact Classical.byContradiction fun hh => this ⟨hl, hh⟩
  refine ⟨aa', ac', w', hr, ⟨⟨t1.kept hk2 (hKa 0 h0) (hKa 1 h1), .inl h0, .inl h1⟩, ?_, A, ?_, ?_⟩, ?_, hk2.mono hKa⟩
  · rintro k (hh | hh)
    · exact Nat.lt_of_lt_of_le (hKa k hh).1 hk2.size
    · exact (ho'.out hh).2
  · intro k hk'
    refine ⟨Nat.lt_of_lt_of_le (hAa k hk').1 hk2.size, ?_⟩
    rintro (hh | hh)
    · exact (l2 k hk').2 (.inl hh)
    · exact (hAa k hk').2 (hnew k hh (hAa k hk').1)
  · refine l3.move (fun g hg hn => hk2.block g ⟨hg, fun hh => hn (.inl (.inr hh))⟩) ?_ (fun k hk => .inr hk) (hk2.mono hAa)
    rintro g ((hh | hh) | hh) hl
    · exact .inl (.inl hh)
    · exact .inl (.inr (hnew g hh hl))
    · exact .inr hh
  · have e : atrCells (attrs ++ [a]) = atrCells attrs ++ [sv a.name, sv a.value] := by rw [atrCells_append]; rfl
    rw [e]
    refine ho'.to (fun g hg hh => ?_) (fun _ _ => rfl)
    exact (ho.out (hnew g hg (hKa g hh).1)).1 hh

theorem allX (K : Nat → Prop) (p : Nat) (st : TS) (w : World) (h : TX K w p st) (s : List UInt8) (attr : Bool) (hs : s.length < 1000000) :
    Calls Tryd.prog 92 #[sv s, .bool attr] w fun e w' => e = .returned (sv (allL attr s)) ∧ TX K w' p st ∧ Kept K w w' := by
  have := all_any ⟨s.toArray⟩ attr (fun k => k < w.heap.size) w (fun _ h => h) (by rw [sv_size]; exact hs) h.tab (h.lt 0 h.1.2.1) (h.lt 1 h.1.2.2)
  refine this.mono ?_
  rintro e w' ⟨rfl, hk⟩
  exact ⟨rfl, h.kept hk, hk.mono h.lt⟩
theorem hasX (K : Nat → Prop) (p : Nat) (st : TS) (w : World) (h : TX K w p st) (attrs : List Atr) (name : List UInt8) (aa : Option Addr) (ac : Nat) (hn : attrs.length ≤ 100) (ha : AtsIn K w aa attrs) :
    Calls Tryd.prog 91 #[.slice aa attrs.length ac, sv name] w fun e w' => e = .returned (.bool (hasN attrs name)) ∧ TX K w' p st ∧ Kept K w w' := by
  refine (has_any attrs name aa ac hn (fun k => k < w.heap.size) w (fun _ h => h) (ha.kept (Kept.refl _ w) h.lt)).mono ?_
  rintro e w' ⟨rfl, hk⟩
  exact ⟨rfl, h.kept hk, hk.mono h.lt⟩
end Go.Proofs.YtncfgahnjakeiaaDoor
end
