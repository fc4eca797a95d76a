/-
  What ending, markup and next do to the reader.
-/
import Derived.Test.YtncfgahnjakeiaaDoorTkU
import Derived.Test.YtncfgahnjakeiaaDoorTkL
namespace Go.Proofs.YtncfgahnjakeiaaDoor
open Go.RowKit

set_option maxRecDepth 20000 in
set_option maxHeartbeats 1000000 in
theorem endingX (K : Nat → Prop) (p : Nat) (st : TS) (w : World) (h : TX K w p st) (b : Nat) (hf : Fit b st) (hb : b ≤ 700000000) (hsm : st.rest.length < 200000) (a : Nat) :
    Calls Tryd.prog 48 #[.pointer (some ⟨p, 0, none⟩), .int .i64 a] w fun e w' => e = .returned (.tuple #[]) ∧ TX K w' p (st.ending a) ∧ Kept K w w' := by
  have HD : Hid (st.ending a = if begL st.rest = true then st.tag 2 a else if st.rest = [] then (st.flt 6 a).addT [60, 47] a else if pre [62] st.rest = true then (st.cut 1).flt 4 a else st.note a) := rfl
  obtain ⟨c0, c1⟩ := h.cells
  have r1 := letter_any st.rest w
  obtain ⟨q, hq⟩ : ∃ q, begL st.rest = q := ⟨_, rfl⟩
  rw [hq] at HD r1
  clear hq
  cases q with
  | true =>
    rw [if_pos rfl] at HD
    have r2 := tagX K p st w h b hf hb hsm 2 (.inr rfl) a
    clear h hf
    go_enter Tryd.func48, Tryd.ntmps48
    go_wp2_with fail
    refine r1.mono ?_
    rintro e w1 ⟨rfl, rfl⟩
    clear r1
    go_wp2_with fail
    refine r2.mono ?_
    rintro e w2 ⟨rfl, t2, k2⟩
    go_wp2
    go_end0
    exact ⟨rfl, by rw [HD.out]; exact t2, k2⟩
  | false =>
    rw [if_neg (by decide)] at HD
    have r2 := atEndX K p st w h
    by_cases hE : st.rest = []
    · rw [if_pos hE] at HD
      have f1 := hf.flt 6 a
      have r3 := faultX K p st w h (by have := hf.room; omega) 6 a
      have r4 := fun X hX => addTextX K p (st.flt 6 a) X hX [60, 47] a (by have := f1.room; simp only [List.length_cons, List.length_nil]; omega)
      rw [hE] at r2 r1 c0
      clear h hf f1 hE
      go_enter Tryd.func48, Tryd.ntmps48
      go_wp2_with fail
      refine r1.mono ?_
      rintro e w1 ⟨rfl, rfl⟩
      clear r1
      go_wp2_with fail
      refine r2.mono ?_
      rintro e w1 ⟨rfl, rfl⟩
      clear r2
      go_wp2_with fail
      refine r3.mono ?_
      rintro e w3 ⟨rfl, t3, k3⟩
      have r4 := r4 _ t3
      clear r3 c0 c1
      go_wp2_with fail
      refine r4.mono ?_
      rintro e w4 ⟨rfl, t4, k4⟩
      go_wp2
      go_end0
      exact ⟨rfl, by rw [HD.out]; exact t4, k3.trans k4⟩
    · rw [if_neg hE] at HD
      have hEq : st.rest.isEmpty = false := by cases hh : st.rest with | nil => exact absurd hh hE | cons => rfl
      rw [hEq] at r2
      by_cases hP : pre [62] st.rest = true
      · rw [if_pos hP] at HD
        have r3 := cutYes K p st [62] hP hf.le w h
        have f1 := (hf.cut (n := 1) (pre_length hP)).mono (b' := b) (by omega)
        have ecut : st.cut ([62] : List UInt8).length = st.cut 1 := rfl
        rw [ecut] at r3
        have r4 := fun X hX => faultX K p (st.cut 1) X hX (by have := f1.room; omega) 4 a
        clear h hf f1 hE hEq hP ecut
        go_enter Tryd.func48, Tryd.ntmps48
        go_wp2_with fail
        refine r1.mono ?_
        rintro e w1 ⟨rfl, rfl⟩
        clear r1
        go_wp2_with fail
        refine r2.mono ?_
        rintro e w1 ⟨rfl, rfl⟩
        clear r2
        go_wp2_with fail
        refine r3.mono ?_
        rintro e w3 ⟨rfl, t3, k3⟩
        have r4 := r4 _ t3
        clear r3 c0 c1
        go_wp2_with fail
        refine r4.mono ?_
        rintro e w4 ⟨rfl, t4, k4⟩
        go_wp2
        go_end0
        exact ⟨rfl, by rw [HD.out]; exact t4, k3.trans k4⟩
      · replace hP : pre [62] st.rest = false := by simpa using hP
        rw [if_neg (by rw [hP]; decide)] at HD
        have r3 := cutNo K p st [62] hP hf.le w h
        have r4 := fun X hX => noteX K p st X hX b hf (by omega) a
        clear h hf hE hEq hP
        go_enter Tryd.func48, Tryd.ntmps48
        go_wp2_with fail
        refine r1.mono ?_
        rintro e w1 ⟨rfl, rfl⟩
        clear r1
        go_wp2_with fail
        refine r2.mono ?_
        rintro e w1 ⟨rfl, rfl⟩
        clear r2
        go_wp2_with fail
        refine r3.mono ?_
        rintro e w3 ⟨rfl, t3, k3⟩
        have r4 := r4 _ t3
        clear r3 c0 c1
        go_wp2_with fail
        refine r4.mono ?_
        rintro e w4 ⟨rfl, t4, k4⟩
        go_wp2
        go_end0
        exact ⟨rfl, by rw [HD.out]; exact t4, k3.trans k4⟩

theorem anyX (K : Nat → Prop) (p : Nat) (st : TS) (w : World) (h : TX K w p st) (hl : st.rest.length ≤ 1000000) :
    Calls Tryd.prog 50 #[sv st.rest, .string ⟨#[33, 100, 111, 99, 116, 121, 112, 101]⟩] w fun e w' => e = .returned (.bool (anyG dtL st.rest)) ∧ TX K w' p st ∧ Kept K w w' := by
  refine (anySize_any st.rest 33 [100, 111, 99, 116, 121, 112, 101] hl (by decide) (fun k => k < w.heap.size) w (fun _ h => h)).mono ?_
  rintro e w' ⟨rfl, hk⟩
  exact ⟨rfl, h.kept hk, hk.mono h.lt⟩
theorem anyG_length {f l : List UInt8} (h : anyG f l = true) : f.length ≤ l.length := by
  unfold anyG at h
  rw [Bool.and_eq_true] at h
  exact of_decide_eq_true h.1

set_option maxRecDepth 20000 in
set_option maxHeartbeats 2000000 in
theorem markupX (K : Nat → Prop) (p : Nat) (st0 : TS) (w : World) (h : TX K w p st0) (b : Nat) (hf0 : Fit b st0) (hb : b ≤ 700000000) (hsm0 : st0.rest.length < 200000) (hne : st0.rest ≠ []) :
    Calls Tryd.prog 25 #[.pointer (some ⟨p, 0, none⟩)] w fun e w' => e = .returned (.tuple #[]) ∧ TX K w' p st0.markup ∧ Kept K w w' := by
  have HD : Hid (st0.markup = (st0.cut 1).opened st0.pl) := rfl
  obtain ⟨c0, c1⟩ := h.cells
  have hpos : 0 < st0.rest.length := List.length_pos_iff.2 hne
  have r0 := cutX K p st0 w h 1 (by omega) hf0.le
  have hf := (hf0.cut (n := 1) (by omega)).mono (b' := b) (by omega)
  have hsm : (st0.cut 1).rest.length < 200000 := by simp only [TS.cut, List.length_drop]; omega
  obtain ⟨a, ea⟩ : ∃ a, st0.pl = a := ⟨_, rfl⟩
  obtain ⟨st, est⟩ : ∃ s, st0.cut 1 = s := ⟨_, rfl⟩
  rw [ea, est] at HD
  rw [ea] at c1
  rw [est] at hf hsm r0
  replace HD : Hid (st0.markup = if begL st.rest = true then st.tag 1 a else if pre [47] st.rest = true then (st.cut 1).ending a else if pre [33, 45, 45] st.rest = true then (st.cut 3).comment a
    else if anyG dtL st.rest = true then (st.cut 8).doctype a else if pre [33] st.rest = true then (st.cut 1).note a else if pre [63] st.rest = true then st.note a
    else (st.flt 4 a).addT [60] a) := HD.out
  have r1 := fun X => letter_any st.rest X
  obtain ⟨q, hq⟩ : ∃ q, begL st.rest = q := ⟨_, rfl⟩
  rw [hq] at HD
  simp only [hq] at r1
  clear h hf0 hsm0 hne hpos ea est hq
  cases q with
  | true =>
    rw [if_pos rfl] at HD
    have r2 := fun X hX => tagX K p st X hX b hf hb hsm 1 (.inl rfl) a
    go_enter Tryd.func25, Tryd.ntmps25
    go_wp2_with fail
    refine r0.mono ?_
    rintro e w0 ⟨rfl, t0, k0⟩
    replace r1 := r1 w0
    obtain ⟨d0, d1⟩ := t0.cells
    clear r0 c0 c1
    go_wp2_with fail
    refine r1.mono ?_
    rintro e w1 ⟨rfl, rfl⟩
    replace r2 := r2 _ t0
    clear r1 d0 d1
    go_wp2_with fail
    refine r2.mono ?_
    rintro e w2 ⟨rfl, t2, k2⟩
    go_wp2
    go_end0
    exact ⟨rfl, by rw [HD.out]; exact t2, k0.trans k2⟩
  | false =>
    rw [if_neg (by decide)] at HD
    by_cases h1 : pre [47] st.rest = true
    · rw [if_pos h1] at HD
      have r2 := cutYes K p st [47] h1 hf.le
      have ecut : st.cut ([47] : List UInt8).length = st.cut 1 := rfl
      rw [ecut] at r2
      have f1 := (hf.cut (n := 1) (pre_length h1)).mono (b' := b) (by omega)
      have hsm1 : (st.cut 1).rest.length < 200000 := by simp only [TS.cut, List.length_drop]; omega
      have r3 := fun X hX => endingX K p (st.cut 1) X hX b f1 hb hsm1 a
      clear h1 ecut f1 hsm1
      go_enter Tryd.func25, Tryd.ntmps25
      go_wp2_with fail
      refine r0.mono ?_
      rintro e w0 ⟨rfl, t0, k0⟩
      replace r1 := r1 w0
      obtain ⟨d0, d1⟩ := t0.cells
      clear r0 c0 c1
      go_wp2_with fail
      refine r1.mono ?_
      rintro e w1 ⟨rfl, rfl⟩
      replace r2 := r2 _ t0
      clear r1 d0 d1
      go_wp2_with fail
      refine r2.mono ?_
      rintro e w2 ⟨rfl, t2, k2⟩
      replace r3 := r3 _ t2
      clear r2
      go_wp2_with fail
      refine r3.mono ?_
      rintro e w3 ⟨rfl, t3, k3⟩
      go_wp2
      go_end0
      exact ⟨rfl, by rw [HD.out]; exact t3, (k0.trans k2).trans k3⟩
    · replace h1 : pre [47] st.rest = false := by simpa using h1
      rw [if_neg (by rw [h1]; decide)] at HD
      have r2 := cutNo K p st [47] h1 hf.le
      by_cases h2 : pre [33, 45, 45] st.rest = true
      · rw [if_pos h2] at HD
        have r3 := cutYes K p st [33, 45, 45] h2 hf.le
        have ecut : st.cut ([33, 45, 45] : List UInt8).length = st.cut 3 := rfl
        rw [ecut] at r3
        have f1 := (hf.cut (n := 3) (pre_length h2)).mono (b' := b) (by omega)
        have r4 := fun X hX => commentX K p (st.cut 3) X hX b f1 (by omega) a
        clear h1 h2 ecut f1
        go_enter Tryd.func25, Tryd.ntmps25
        go_wp2_with fail
        refine r0.mono ?_
        rintro e w0 ⟨rfl, t0, k0⟩
        replace r1 := r1 w0
        obtain ⟨d0, d1⟩ := t0.cells
        clear r0 c0 c1
        go_wp2_with fail
        refine r1.mono ?_
        rintro e w1 ⟨rfl, rfl⟩
        replace r2 := r2 _ t0
        clear r1 d0 d1
        go_wp2_with fail
        refine r2.mono ?_
        rintro e w2 ⟨rfl, t2, k2⟩
        replace r3 := r3 _ t2
        clear r2
        go_wp2_with fail
        refine r3.mono ?_
        rintro e w3 ⟨rfl, t3, k3⟩
        replace r4 := r4 _ t3
        clear r3
        go_wp2_with fail
        refine r4.mono ?_
        rintro e w4 ⟨rfl, t4, k4⟩
        go_wp2
        go_end0
        exact ⟨rfl, by rw [HD.out]; exact t4, ((k0.trans k2).trans k3).trans k4⟩
      · replace h2 : pre [33, 45, 45] st.rest = false := by simpa using h2
        rw [if_neg (by rw [h2]; decide)] at HD
        have r3 := cutNo K p st [33, 45, 45] h2 hf.le
        have r4 := fun X hX => anyX K p st X hX (by omega)
        by_cases h3 : anyG dtL st.rest = true
        · rw [if_pos h3] at HD
          simp only [h3] at r4
          have hl8 : 8 ≤ st.rest.length := anyG_length h3
          have r5 := fun X hX => cutX K p st X hX 8 hl8 hf.le
          have f1 := (hf.cut (n := 8) hl8).mono (b' := b) (by omega)
          have r6 := fun X hX => dtX K p (st.cut 8) X hX b f1 (by omega) a
          clear h1 h2 h3 f1 hl8
          go_enter Tryd.func25, Tryd.ntmps25
          go_wp2_with fail
          refine r0.mono ?_
          rintro e w0 ⟨rfl, t0, k0⟩
          replace r1 := r1 w0
          obtain ⟨d0, d1⟩ := t0.cells
          clear r0 c0 c1
          go_wp2_with fail
          refine r1.mono ?_
          rintro e w1 ⟨rfl, rfl⟩
          replace r2 := r2 _ t0
          clear r1 d0 d1
          go_wp2_with fail
          refine r2.mono ?_
          rintro e w2 ⟨rfl, t2, k2⟩
          replace r3 := r3 _ t2
          clear r2
          go_wp2_with fail
          refine r3.mono ?_
          rintro e w3 ⟨rfl, t3, k3⟩
          replace r4 := r4 _ t3
          obtain ⟨d0, d1⟩ := t3.cells
          clear r3
          go_wp2_with fail
          refine r4.mono ?_
          rintro e w4 ⟨rfl, t4, k4⟩
          replace r5 := r5 _ t4
          clear r4 d0 d1
          go_wp2_with fail
          refine r5.mono ?_
          rintro e w5 ⟨rfl, t5, k5⟩
          replace r6 := r6 _ t5
          clear r5
          go_wp2_with fail
          refine r6.mono ?_
          rintro e w6 ⟨rfl, t6, k6⟩
          go_wp2
          go_end0
          exact ⟨rfl, by rw [HD.out]; exact t6, ((((k0.trans k2).trans k3).trans k4).trans k5).trans k6⟩
        · replace h3 : anyG dtL st.rest = false := by simpa using h3
          rw [if_neg (by rw [h3]; decide)] at HD
          simp only [h3] at r4
          by_cases h4 : pre [33] st.rest = true
          · rw [if_pos h4] at HD
            have r5 := cutYes K p st [33] h4 hf.le
            have ecut : st.cut ([33] : List UInt8).length = st.cut 1 := rfl
            rw [ecut] at r5
            have f1 := (hf.cut (n := 1) (pre_length h4)).mono (b' := b) (by omega)
            have r6 := fun X hX => noteX K p (st.cut 1) X hX b f1 (by omega) a
            clear h1 h2 h3 h4 ecut f1
            go_enter Tryd.func25, Tryd.ntmps25
            go_wp2_with fail
            refine r0.mono ?_
            rintro e w0 ⟨rfl, t0, k0⟩
            replace r1 := r1 w0
            obtain ⟨d0, d1⟩ := t0.cells
            clear r0 c0 c1
            go_wp2_with fail
            refine r1.mono ?_
            rintro e w1 ⟨rfl, rfl⟩
            replace r2 := r2 _ t0
            clear r1 d0 d1
            go_wp2_with fail
            refine r2.mono ?_
            rintro e w2 ⟨rfl, t2, k2⟩
            replace r3 := r3 _ t2
            clear r2
            go_wp2_with fail
            refine r3.mono ?_
            rintro e w3 ⟨rfl, t3, k3⟩
            replace r4 := r4 _ t3
            obtain ⟨d0, d1⟩ := t3.cells
            clear r3
            go_wp2_with fail
            refine r4.mono ?_
            rintro e w4 ⟨rfl, t4, k4⟩
            replace r5 := r5 _ t4
            clear r4 d0 d1
            go_wp2_with fail
            refine r5.mono ?_
            rintro e w5 ⟨rfl, t5, k5⟩
            replace r6 := r6 _ t5
            clear r5
            go_wp2_with fail
            refine r6.mono ?_
            rintro e w6 ⟨rfl, t6, k6⟩
            go_wp2
            go_end0
            exact ⟨rfl, by rw [HD.out]; exact t6, ((((k0.trans k2).trans k3).trans k4).trans k5).trans k6⟩
          · replace h4 : pre [33] st.rest = false := by simpa using h4
            rw [if_neg (by rw [h4]; decide)] at HD
            have r5 := cutNo K p st [33] h4 hf.le
            have r6 : ∀ X, Calls Tryd.prog 52 #[sv st.rest, .string ⟨#[63]⟩] X fun e w' => e = .returned (.bool (pre [63] st.rest)) ∧ w' = X := fun X => pre_any ⟨st.rest.toArray⟩ ⟨#[63]⟩ X
            by_cases h5 : pre [63] st.rest = true
            · rw [if_pos h5] at HD
              simp only [h5] at r6
              have r7 := fun X hX => noteX K p st X hX b hf (by omega) a
              clear h1 h2 h3 h4 h5
              go_enter Tryd.func25, Tryd.ntmps25
              go_wp2_with fail
              refine r0.mono ?_
              rintro e w0 ⟨rfl, t0, k0⟩
              replace r1 := r1 w0
              obtain ⟨d0, d1⟩ := t0.cells
              clear r0 c0 c1
              go_wp2_with fail
              refine r1.mono ?_
              rintro e w1 ⟨rfl, rfl⟩
              replace r2 := r2 _ t0
              clear r1 d0 d1
              go_wp2_with fail
              refine r2.mono ?_
              rintro e w2 ⟨rfl, t2, k2⟩
              replace r3 := r3 _ t2
              clear r2
              go_wp2_with fail
              refine r3.mono ?_
              rintro e w3 ⟨rfl, t3, k3⟩
              replace r4 := r4 _ t3
              obtain ⟨d0, d1⟩ := t3.cells
              clear r3
              go_wp2_with fail
              refine r4.mono ?_
              rintro e w4 ⟨rfl, t4, k4⟩
              replace r5 := r5 _ t4
              clear r4 d0 d1
              go_wp2_with fail
              refine r5.mono ?_
              rintro e w5 ⟨rfl, t5, k5⟩
              replace r6 := r6 w5
              obtain ⟨d0, d1⟩ := t5.cells
              clear r5
              go_wp2_with fail
              refine r6.mono ?_
              rintro e w6 ⟨rfl, rfl⟩
              replace r7 := r7 _ t5
              clear r6 d0 d1
              go_wp2_with fail
              refine r7.mono ?_
              rintro e w7 ⟨rfl, t7, k7⟩
              go_wp2
              go_end0
              exact ⟨rfl, by rw [HD.out]; exact t7, ((((k0.trans k2).trans k3).trans k4).trans k5).trans k7⟩
            · replace h5 : pre [63] st.rest = false := by simpa using h5
              rw [if_neg (by rw [h5]; decide)] at HD
              simp only [h5] at r6
              have f1 := hf.flt 4 a
              have r7 := fun X hX => faultX K p st X hX (by have := hf.room; omega) 4 a
              have r8 := fun X hX => addTextX K p (st.flt 4 a) X hX [60] a (by have := f1.room; simp only [List.length_cons, List.length_nil]; omega)
              clear h1 h2 h3 h4 h5 f1
              go_enter Tryd.func25, Tryd.ntmps25
              go_wp2_with fail
              refine r0.mono ?_
              rintro e w0 ⟨rfl, t0, k0⟩
              replace r1 := r1 w0
              obtain ⟨d0, d1⟩ := t0.cells
              clear r0 c0 c1
              go_wp2_with fail
              refine r1.mono ?_
              rintro e w1 ⟨rfl, rfl⟩
              replace r2 := r2 _ t0
              clear r1 d0 d1
              go_wp2_with fail
              refine r2.mono ?_
              rintro e w2 ⟨rfl, t2, k2⟩
              replace r3 := r3 _ t2
              clear r2
              go_wp2_with fail
              refine r3.mono ?_
              rintro e w3 ⟨rfl, t3, k3⟩
              replace r4 := r4 _ t3
              obtain ⟨d0, d1⟩ := t3.cells
              clear r3
              go_wp2_with fail
              refine r4.mono ?_
              rintro e w4 ⟨rfl, t4, k4⟩
              replace r5 := r5 _ t4
              clear r4 d0 d1
              go_wp2_with fail
              refine r5.mono ?_
              rintro e w5 ⟨rfl, t5, k5⟩
              replace r6 := r6 w5
              obtain ⟨d0, d1⟩ := t5.cells
              clear r5
              go_wp2_with fail
              refine r6.mono ?_
              rintro e w6 ⟨rfl, rfl⟩
              replace r7 := r7 _ t5
              clear r6 d0 d1
              go_wp2_with fail
              refine r7.mono ?_
              rintro e w7 ⟨rfl, t7, k7⟩
              replace r8 := r8 _ t7
              clear r7
              go_wp2_with fail
              refine r8.mono ?_
              rintro e w8 ⟨rfl, t8, k8⟩
              go_wp2
              go_end0
              exact ⟨rfl, by rw [HD.out]; exact t8, (((((k0.trans k2).trans k3).trans k4).trans k5).trans k7).trans k8⟩
end Go.Proofs.YtncfgahnjakeiaaDoor
