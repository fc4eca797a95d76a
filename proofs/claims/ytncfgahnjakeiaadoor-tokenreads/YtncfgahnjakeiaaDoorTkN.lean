/-
  What value does to the reader.
-/
import Derived.Test.YtncfgahnjakeiaaDoorTkK
namespace Go.Proofs.YtncfgahnjakeiaaDoor
open Go.RowKit

theorem info9 : (Tryd.prog.info? 9).map (·.size) = some 1 := by kernel_rfl
theorem run_q0 (W : World) : (Instr.index 101 (.agg #[.string ⟨#[34]⟩, .string ⟨#[39]⟩]) (.int .i64 0)).run Tryd.prog W = .ok (.string ⟨#[34]⟩) W := by
  obtain ⟨i, hi, hz⟩ := Option.map_eq_some_iff.1 info9
  have hu := run_underlying (P := Tryd.prog) Tryd.underlying101 W
  simp [Instr.index, asIntOf, hu, part, isAgg, sizeOf, typeInfo, hi, hz]
theorem run_q1 (W : World) : (Instr.index 101 (.agg #[.string ⟨#[34]⟩, .string ⟨#[39]⟩]) (.int .i64 1)).run Tryd.prog W = .ok (.string ⟨#[39]⟩) W := by
  obtain ⟨i, hi, hz⟩ := Option.map_eq_some_iff.1 info9
  have hu := run_underlying (P := Tryd.prog) Tryd.underlying101 W
  simp [Instr.index, asIntOf, hu, part, isAgg, sizeOf, typeInfo, hi, hz]

set_option maxRecDepth 20000 in
set_option maxHeartbeats 2000000 in
theorem valueX (K : Nat → Prop) (p : Nat) (st : TS) (w : World) (h : TX K w p st) (b : Nat) (hf : Fit b st) (hb : b ≤ 900000000) :
    Calls Tryd.prog 90 #[.pointer (some ⟨p, 0, none⟩)] w fun e w' => e = .returned (.tuple #[sv st.value.v, .bool st.value.ok]) ∧ TX K w' p st.value.st ∧ Kept K w w' := by
  have f1 := hf.cutTo (hdOut blk)
  have r1 := noneX K p st w.drew h.drew blk
  have r2 := fun X hX => cutNoneX K p st X hX hf.le blk
  have HV : Hid (st.value = if pre [61] (st.cutTo (hdOut blk)).rest = true then (((st.cutTo (hdOut blk)).cut 1).cutTo (hdOut blk)).val2 else ⟨st.cutTo (hdOut blk), [], true⟩) := rfl
  obtain ⟨s1, e1⟩ : ∃ s, st.cutTo (hdOut blk) = s := ⟨_, rfl⟩
  rw [e1] at HV f1
  simp only [e1] at r2
  obtain ⟨V, eV⟩ : ∃ V, st.value = V := ⟨_, rfl⟩
  rw [eV] at HV ⊢
  clear e1 eV h hf
  by_cases hp : pre [61] s1.rest = true
  · have r3 := cutYes K p s1 [61] hp f1.le
    have e2 : s1.cut ([61] : List UInt8).length = s1.cut 1 := rfl
    rw [e2] at r3
    have f2 := (f1.cut (n := 1) (pre_length hp)).mono (b' := b) (by omega)
    rw [if_pos hp] at HV
    obtain ⟨s2, e3⟩ : ∃ s, s1.cut 1 = s := ⟨_, rfl⟩
    rw [e3] at HV f2
    simp only [e3] at r3
    have f3 := f2.cutTo (hdOut blk)
    have r4 := fun X hX => noneX K p s2 X hX blk
    have r5 := fun X hX => cutNoneX K p s2 X hX f2.le blk
    obtain ⟨s3, e4⟩ : ∃ s, s2.cutTo (hdOut blk) = s := ⟨_, rfl⟩
    rw [e4] at HV f3
    simp only [e4] at r5
    clear e2 e3 e4 hp f1 f2
    go_enter Tryd.func90, Tryd.ntmps90
    go_wp2_with fail
    go_region_with (first | (refine r1.mono ?_; rintro e w1 ⟨rfl, t1, l1, c1, k1⟩; have r2 := r2 w1 t1 _ l1 c1) | (refine r2.mono ?_; rintro e w2 ⟨rfl, t2, k2⟩))
    have r3 := r3 _ t2
    replace k2 : Kept K w w2 := (Kept.refl K w).drew.trans (k1.trans k2)
    clear t1 l1 c1 k1 r1 r2
    go_wp2_with fail
    refine r3.mono ?_
    rintro e w3 ⟨rfl, t3, k3⟩
    have r4 := r4 _ t3.drew
    clear r3
    go_wp2_with fail
    go_region_with (first | (refine r4.mono ?_; rintro e w4 ⟨rfl, t4, l4, c4, k4⟩; have r5 := r5 w4 t4 _ l4 c4) | (refine r5.mono ?_; rintro e w5 ⟨rfl, t5, k5⟩))
    replace k5 : Kept K w w5 := ((k2.trans k3).drew.trans k4).trans k5
    clear t2 t3 t4 l4 c4 k4 k3 k2 r4 r5
    go_wp2_with fail
    go_loopg [23] 2 (fun gm i wr => ∃ k : Nat, gm = 2 - k ∧ k ≤ 2 ∧ i = .int .i64 k ∧ (1 ≤ k → pre [34] s3.rest = false) ∧ (2 ≤ k → pre [39] s3.rest = false) ∧ TX K wr p s3 ∧ Kept K w wr)
    case atStart => exact ⟨0, rfl, by omega, rfl, fun h => by omega, fun h => by omega, t5, k5⟩
    case round =>
      clear t5 k5
      obtain ⟨k, hgk, hk, rfl, q1, q2, t6, k6⟩ := hrel
      have hx0 := run_q0 wr
      have hx1 := run_q1 wr
      have cases : k = 0 ∨ k = 1 ∨ k = 2 := by omega
      rcases cases with rfl | rfl | rfl
      · by_cases hq : pre [34] s3.rest = true
        · have r6 := cutYes K p s3 [34] hq f3.le wr t6
          have f4 := (f3.cut (n := 1) (pre_length hq)).mono (b' := b) (by omega)
          have e5 : s3.cut ([34] : List UInt8).length = s3.cut 1 := rfl
          rw [e5] at r6
          replace HV : Hid (V = ⟨((s3.cut 1).cutTo (hdIn [34])).cutIf [34], (s3.cut 1).front (hdIn [34]), pre [34] ((s3.cut 1).cutTo (hdIn [34])).rest⟩) := by
            show V = _
            rw [HV.out]
            unfold TS.val2
            rw [if_pos hq]
            rfl
          obtain ⟨s4, e6⟩ : ∃ s, s3.cut 1 = s := ⟨_, rfl⟩
          rw [e6] at HV f4
          simp only [e6] at r6
          have f5 := f4.cutTo (hdIn [34])
          have r7 := fun X hX => oneX K p s4 X hX [34]
          have r8 := fun X hX => cutOneX K p s4 X hX f4.le [34]
          obtain ⟨s5, e7⟩ : ∃ s, s4.cutTo (hdIn [34]) = s := ⟨_, rfl⟩
          obtain ⟨v, ev⟩ : ∃ s, s4.front (hdIn [34]) = s := ⟨_, rfl⟩
          rw [e7, ev] at HV
          rw [e7] at f5
          simp only [e7, ev] at r8
          have r9 := fun X hX => cutIfX K p s5 X hX [34] f5.le
          obtain ⟨g, eg⟩ : ∃ g, pre [34] s5.rest = g := ⟨_, rfl⟩
          obtain ⟨s6, e8⟩ : ∃ s, s5.cutIf [34] = s := ⟨_, rfl⟩
          rw [eg, e8] at HV
          simp only [eg, e8] at r9
          clear e5 e6 e7 e8 ev eg hq q1 q2 t6 f3 f4 f5
          go_wp2_with fail
          refine r6.mono ?_
          rintro e w6 ⟨rfl, t6, k7⟩
          have r7 := r7 _ t6.drew
          clear r6
          go_wp2_with fail
          go_region_with (first | (refine r7.mono ?_; rintro e w7 ⟨rfl, t7, l7, c7, k8⟩; have r8 := r8 w7 t7 _ l7 c7) | (refine r8.mono ?_; rintro e w8 ⟨rfl, t8, k9⟩))
          have r9 := r9 _ t8
          replace k9 : Kept K w w8 := ((k6.trans k7).drew.trans k8).trans k9
          clear t7 l7 c7 k8 k7 k6 r7 r8 t6
          go_wp2_with fail
          refine r9.mono ?_
          rintro e w9 ⟨rfl, t9, k10⟩
          go_wp2
          go_ret2
          rw [HV.out]
          exact ⟨rfl, t9, k9.trans k10⟩
        · replace hq : pre [34] s3.rest = false := by simpa using hq
          have r6 := cutNo K p s3 [34] hq f3.le wr t6
          clear t6
          go_wp2_with fail
          refine r6.mono ?_
          rintro e w6 ⟨rfl, t6, k7⟩
          go_wp2
          go_roundg (2 - 1)
          case rel => exact ⟨1, rfl, by omega, by go_num, fun _ => hq, fun h => by omega, t6, k6.trans k7⟩
          case measure => omega
      · by_cases hq : pre [39] s3.rest = true
        · have r6 := cutYes K p s3 [39] hq f3.le wr t6
          have f4 := (f3.cut (n := 1) (pre_length hq)).mono (b' := b) (by omega)
          have e5 : s3.cut ([39] : List UInt8).length = s3.cut 1 := rfl
          rw [e5] at r6
          replace HV : Hid (V = ⟨((s3.cut 1).cutTo (hdIn [39])).cutIf [39], (s3.cut 1).front (hdIn [39]), pre [39] ((s3.cut 1).cutTo (hdIn [39])).rest⟩) := by
            show V = _
            rw [HV.out]
            unfold TS.val2
            rw [if_neg (by rw [q1 (by omega)]; decide), if_pos hq]
            rfl
          obtain ⟨s4, e6⟩ : ∃ s, s3.cut 1 = s := ⟨_, rfl⟩
          rw [e6] at HV f4
          simp only [e6] at r6
          have f5 := f4.cutTo (hdIn [39])
          have r7 := fun X hX => oneX K p s4 X hX [39]
          have r8 := fun X hX => cutOneX K p s4 X hX f4.le [39]
          obtain ⟨s5, e7⟩ : ∃ s, s4.cutTo (hdIn [39]) = s := ⟨_, rfl⟩
          obtain ⟨v, ev⟩ : ∃ s, s4.front (hdIn [39]) = s := ⟨_, rfl⟩
          rw [e7, ev] at HV
          rw [e7] at f5
          simp only [e7, ev] at r8
          have r9 := fun X hX => cutIfX K p s5 X hX [39] f5.le
          obtain ⟨g, eg⟩ : ∃ g, pre [39] s5.rest = g := ⟨_, rfl⟩
          obtain ⟨s6, e8⟩ : ∃ s, s5.cutIf [39] = s := ⟨_, rfl⟩
          rw [eg, e8] at HV
          simp only [eg, e8] at r9
          clear e5 e6 e7 e8 ev eg hq q1 q2 t6 f3 f4 f5
          go_wp2_with fail
          refine r6.mono ?_
          rintro e w6 ⟨rfl, t6, k7⟩
          have r7 := r7 _ t6.drew
          clear r6
          go_wp2_with fail
          go_region_with (first | (refine r7.mono ?_; rintro e w7 ⟨rfl, t7, l7, c7, k8⟩; have r8 := r8 w7 t7 _ l7 c7) | (refine r8.mono ?_; rintro e w8 ⟨rfl, t8, k9⟩))
          have r9 := r9 _ t8
          replace k9 : Kept K w w8 := ((k6.trans k7).drew.trans k8).trans k9
          clear t7 l7 c7 k8 k7 k6 r7 r8 t6
          go_wp2_with fail
          refine r9.mono ?_
          rintro e w9 ⟨rfl, t9, k10⟩
          go_wp2
          go_ret2
          rw [HV.out]
          exact ⟨rfl, t9, k9.trans k10⟩
        · replace hq : pre [39] s3.rest = false := by simpa using hq
          have r6 := cutNo K p s3 [39] hq f3.le wr t6
          clear t6
          go_wp2_with fail
          refine r6.mono ?_
          rintro e w6 ⟨rfl, t6, k7⟩
          go_wp2
          go_roundg (2 - 2)
          case rel => exact ⟨2, rfl, by omega, by go_num, fun _ => q1 (by omega), fun _ => hq, t6, k6.trans k7⟩
          case measure => omega
      · have z1 := q1 (by omega)
        have z2 := q2 (by omega)
        have r6 : Calls Tryd.prog 52 #[sv s3.rest, .string ⟨#[62]⟩] wr fun e w' => e = .returned (.bool (pre [62] s3.rest)) ∧ w' = wr := pre_any ⟨s3.rest.toArray⟩ ⟨#[62]⟩ wr
        obtain ⟨c0, c1⟩ := t6.cells
        replace HV : Hid (V = if pre [62] s3.rest = true then ⟨s3.flt 5 s3.pl, [], true⟩ else ⟨s3.cutTo (hdIn [9, 10, 12, 32, 62]), s3.front (hdIn [9, 10, 12, 32, 62]), true⟩) := by
          show V = _
          rw [HV.out]
          unfold TS.val2
          rw [if_neg (by rw [z1]; decide), if_neg (by rw [z2]; decide)]
        clear z1 z2 q1 q2
        by_cases hq : pre [62] s3.rest = true
        · rw [hq] at r6
          rw [if_pos hq] at HV
          have r7 := fun X hX => faultX K p s3 X hX (by have := f3.room; omega) 5 s3.pl
          clear hq f3
          go_wp2_with fail
          refine r6.mono ?_
          rintro e w6 ⟨rfl, rfl⟩
          have r7 := r7 _ t6
          clear r6 t6
          go_wp2_with fail
          refine r7.mono ?_
          rintro e w7 ⟨rfl, t7, k7⟩
          go_wp2
          go_ret2
          rw [HV.out]
          exact ⟨rfl, t7, k6.trans k7⟩
        · replace hq : pre [62] s3.rest = false := by simpa using hq
          rw [hq] at r6
          rw [if_neg (by rw [hq]; decide)] at HV
          have r7 := fun X hX => oneX K p s3 X hX [9, 10, 12, 32, 62]
          have r8 := fun X hX => cutOneX K p s3 X hX f3.le [9, 10, 12, 32, 62]
          obtain ⟨s5, e7⟩ : ∃ s, s3.cutTo (hdIn [9, 10, 12, 32, 62]) = s := ⟨_, rfl⟩
          obtain ⟨v, ev⟩ : ∃ s, s3.front (hdIn [9, 10, 12, 32, 62]) = s := ⟨_, rfl⟩
          rw [e7, ev] at HV
          simp only [e7, ev] at r8
          clear hq f3 e7 ev
          go_wp2_with fail
          refine r6.mono ?_
          rintro e w6 ⟨rfl, rfl⟩
          have r7 := r7 _ t6.drew
          clear r6 t6 c0 c1
          go_wp2_with fail
          go_region_with (first | (refine r7.mono ?_; rintro e w7 ⟨rfl, t7, l7, c7, k8⟩; have r8 := r8 w7 t7 _ l7 c7) | (refine r8.mono ?_; rintro e w8 ⟨rfl, t8, k9⟩))
          go_wp2
          go_ret2
          rw [HV.out]
          exact ⟨rfl, t8, (k6.drew.trans k8).trans k9⟩
  · replace hp : pre [61] s1.rest = false := by simpa using hp
    have r3 := cutNo K p s1 [61] hp f1.le
    rw [if_neg (by rw [hp]; decide)] at HV
    clear hp f1
    go_enter Tryd.func90, Tryd.ntmps90
    go_wp2_with fail
    go_region_with (first | (refine r1.mono ?_; rintro e w1 ⟨rfl, t1, l1, c1, k1⟩; have r2 := r2 w1 t1 _ l1 c1) | (refine r2.mono ?_; rintro e w2 ⟨rfl, t2, k2⟩))
    have r3 := r3 _ t2
    replace k2 : Kept K w w2 := (Kept.refl K w).drew.trans (k1.trans k2)
    clear t1 l1 c1 k1 r1 r2
    go_wp2_with fail
    refine r3.mono ?_
    rintro e w3 ⟨rfl, t3, k3⟩
    go_wp2
    go_ret2
    rw [HV.out]
    exact ⟨rfl, t3, k2.trans k3⟩
end Go.Proofs.YtncfgahnjakeiaaDoor
