/-
  What comment and reference do to the reader.
-/
import Derived.Test.YtncfgahnjakeiaaDoorMe
namespace Go.Proofs.YtncfgahnjakeiaaDoor
open Go.RowKit

theorem Fit.cmtEnd {b : Nat} {st : TS} (h : Fit b st) (a : Nat) : Fit (b + 1) (st.cmtEnd a) := by
  unfold TS.cmtEnd
  split
  · exact h.flt _ _
  · split
    · rename_i hp
      exact (h.cut (n := 3) (pre_length hp)).mono (by omega)
    · exact (h.cutIf _).flt _ _

set_option maxRecDepth 20000 in
set_option maxHeartbeats 1000000 in
theorem commentX (K : Nat → Prop) (p : Nat) (st : TS) (w : World) (h : TX K w p st) (b : Nat) (hf : Fit b st) (hb : b ≤ 900000000) (a : Nat) :
    Calls Tryd.prog 49 #[.pointer (some ⟨p, 0, none⟩), .int .i64 a] w fun e w' => e = .returned (.tuple #[]) ∧ TX K w' p (st.comment a) ∧ Kept K w w' := by
  have HD : Hid (st.comment a = if pre [62] st.rest = true then ((st.cut 1).flt 7 a).cmt [] a else if pre [45, 62] st.rest = true then ((st.cut 2).flt 7 a).cmt [] a
    else ((st.cutTo endsC).cmtEnd a).cmt (st.front endsC) a) := rfl
  by_cases h1 : pre [62] st.rest = true
  · have f1 := (hf.cut (n := 1) (pre_length h1)).mono (b' := b) (by omega)
    have f2 := f1.flt 7 a
    have r1 := cutYes K p st [62] h1 hf.le w h
    have r2 := fun X hX => faultX K p (st.cut 1) X hX (by have := f1.room; omega) 7 a
    have r3 := fun X hX => cmtX K p ((st.cut 1).flt 7 a) X hX (by have := f2.room; omega) [] (by decide) a
    rw [if_pos h1] at HD
    clear h hf f1 f2 h1
    go_enter Tryd.func49, Tryd.ntmps49
    go_wp2_with fail
    refine r1.mono ?_
    rintro e w1 ⟨rfl, t1, k1⟩
    have r2 := r2 w1 t1
    clear r1
    go_wp2_with fail
    refine r2.mono ?_
    rintro e w2 ⟨rfl, t2, k2⟩
    have r3 := r3 w2 t2
    go_wp2_with fail
    refine r3.mono ?_
    rintro e w3 ⟨rfl, t3, k3⟩
    go_wp2
    refine bodyPost_ret (results_none rfl _ _ _) rfl ?_
    exact ⟨rfl, by rw [HD.out]; exact t3, (k1.trans k2).trans k3⟩
  · have h1' : pre [62] st.rest = false := by simpa using h1
    have r1 := cutNo K p st [62] h1' hf.le w h
    rw [if_neg h1] at HD
    by_cases h2 : pre [45, 62] st.rest = true
    · have f1 := (hf.cut (n := 2) (pre_length h2)).mono (b' := b) (by omega)
      have f2 := f1.flt 7 a
      have r1b := cutYes K p st [45, 62] h2 hf.le
      have r2 := fun X hX => faultX K p (st.cut 2) X hX (by have := f1.room; omega) 7 a
      have r3 := fun X hX => cmtX K p ((st.cut 2).flt 7 a) X hX (by have := f2.room; omega) [] (by decide) a
      rw [if_pos h2] at HD
      clear h hf f1 f2 h1 h1' h2
      go_enter Tryd.func49, Tryd.ntmps49
      go_wp2_with fail
      refine r1.mono ?_
      rintro e w0 ⟨rfl, t0, k0⟩
      have r1b := r1b w0 t0
      clear r1
      go_wp2_with fail
      refine r1b.mono ?_
      rintro e w1 ⟨rfl, t1, k1⟩
      have r2 := r2 w1 t1
      clear r1b
      go_wp2_with fail
      refine r2.mono ?_
      rintro e w2 ⟨rfl, t2, k2⟩
      have r3 := r3 w2 t2
      go_wp2_with fail
      refine r3.mono ?_
      rintro e w3 ⟨rfl, t3, k3⟩
      go_wp2
      refine bodyPost_ret (results_none rfl _ _ _) rfl ?_
      exact ⟨rfl, by rw [HD.out]; exact t3, ((k0.trans k1).trans k2).trans k3⟩
    · have h2' : pre [45, 62] st.rest = false := by simpa using h2
      have r1b := cutNo K p st [45, 62] h2' hf.le
      rw [if_neg h2] at HD
      have f1 := hf.cutTo endsC
      have fr := hf.front1 endsC
      have r2 := cutCmtX K p st hf.le
      obtain ⟨s1, e1⟩ : ∃ s, st.cutTo endsC = s := ⟨_, rfl⟩
      obtain ⟨d, ed⟩ : ∃ s, st.front endsC = s := ⟨_, rfl⟩
      rw [e1, ed] at HD
      rw [e1] at f1
      rw [ed] at fr
      simp only [e1, ed] at r2
      have f2 := f1.cmtEnd a
      have r5 := fun X hX => cmtX K p (s1.cmtEnd a) X hX (by have := f2.room; omega) d (by omega) a
      have r3 := fun X hX => atEndX K p s1 X hX
      clear h hf h1 h1' h2 h2' e1 ed
      by_cases g1 : s1.rest = []
      · have e2 : s1.flt 6 s1.pl = s1.cmtEnd a := by unfold TS.cmtEnd; rw [if_pos g1]
        have r4 := fun X hX => faultX K p s1 X hX (by have := f1.room; omega) 6 s1.pl
        rw [e2] at r4
        simp only [g1] at r3
        clear g1 e2 f1 f2 fr
        go_enter Tryd.func49, Tryd.ntmps49
        go_wp2_with fail
        refine r1.mono ?_
        rintro e w0 ⟨rfl, t0, k0⟩
        have r1b := r1b w0 t0
        clear r1
        go_wp2_with fail
        refine r1b.mono ?_
        rintro e w1 ⟨rfl, t1, k1⟩
        have r2 := r2 w1 t1
        clear r1b
        go_wp2_with fail
        refine r2.mono ?_
        rintro e w2 ⟨rfl, t2, k2⟩
        have r3 := r3 w2 t2
        clear r2
        go_wp2_with fail
        refine r3.mono ?_
        rintro e w3 ⟨rfl, rfl⟩
        have r4 := r4 _ t2
        obtain ⟨c0, c1⟩ := t2.cells
        clear r3
        go_wp2_with fail
        refine r4.mono ?_
        rintro e w4 ⟨rfl, t4, k4⟩
        have r5 := r5 _ t4
        clear r4 c0 c1
        go_wp2_with fail
        refine r5.mono ?_
        rintro e w5 ⟨rfl, t5, k5⟩
        go_wp2
        go_end0
        exact ⟨rfl, by rw [HD.out]; exact t5, (((k0.trans k1).trans k2).trans k4).trans k5⟩
      · have ge : s1.rest.isEmpty = false := by cases hh : s1.rest with | nil => exact absurd hh g1 | cons => rfl
        simp only [ge] at r3
        by_cases g2 : pre [45, 45, 62] s1.rest = true
        · have r4 := cutYes K p s1 [45, 45, 62] g2 f1.le
          have e2 : s1.cut ([45, 45, 62] : List UInt8).length = s1.cmtEnd a := by unfold TS.cmtEnd; rw [if_neg g1, if_pos g2]; rfl
          rw [e2] at r4
          clear g1 g2 e2 f1 f2 fr ge
          go_enter Tryd.func49, Tryd.ntmps49
          go_wp2_with fail
          refine r1.mono ?_
          rintro e w0 ⟨rfl, t0, k0⟩
          have r1b := r1b w0 t0
          clear r1
          go_wp2_with fail
          refine r1b.mono ?_
          rintro e w1 ⟨rfl, t1, k1⟩
          have r2 := r2 w1 t1
          clear r1b
          go_wp2_with fail
          refine r2.mono ?_
          rintro e w2 ⟨rfl, t2, k2⟩
          have r3 := r3 w2 t2
          clear r2
          go_wp2_with fail
          refine r3.mono ?_
          rintro e w3 ⟨rfl, rfl⟩
          have r4 := r4 _ t2
          clear r3
          go_wp2_with fail
          refine r4.mono ?_
          rintro e w4 ⟨rfl, t4, k4⟩
          have r5 := r5 _ t4
          clear r4
          go_wp2_with fail
          refine r5.mono ?_
          rintro e w5 ⟨rfl, t5, k5⟩
          go_wp2
          go_end0
          exact ⟨rfl, by rw [HD.out]; exact t5, (((k0.trans k1).trans k2).trans k4).trans k5⟩
        · have g2' : pre [45, 45, 62] s1.rest = false := by simpa using g2
          have r4 := cutNo K p s1 [45, 45, 62] g2' f1.le
          have r4b := fun X hX => cutIfX K p s1 X hX [45, 45, 33, 62] f1.le
          have f3 := f1.cutIf [45, 45, 33, 62]
          have r4c := fun X hX => faultX K p (s1.cutIf [45, 45, 33, 62]) X hX (by have := f3.room; omega) 7 a
          have e2 : (s1.cutIf [45, 45, 33, 62]).flt 7 a = s1.cmtEnd a := by unfold TS.cmtEnd; rw [if_neg g1, if_neg g2]
          rw [e2] at r4c
          clear g1 g2 g2' e2 f1 f2 fr ge f3
          go_enter Tryd.func49, Tryd.ntmps49
          go_wp2_with fail
          refine r1.mono ?_
          rintro e w0 ⟨rfl, t0, k0⟩
          have r1b := r1b w0 t0
          clear r1
          go_wp2_with fail
          refine r1b.mono ?_
          rintro e w1 ⟨rfl, t1, k1⟩
          have r2 := r2 w1 t1
          clear r1b
          go_wp2_with fail
          refine r2.mono ?_
          rintro e w2 ⟨rfl, t2, k2⟩
          have r3 := r3 w2 t2
          clear r2
          go_wp2_with fail
          refine r3.mono ?_
          rintro e w3 ⟨rfl, rfl⟩
          have r4 := r4 _ t2
          clear r3
          go_wp2_with fail
          refine r4.mono ?_
          rintro e w4 ⟨rfl, t4, k4⟩
          have r4b := r4b _ t4
          clear r4
          go_wp2_with fail
          refine r4b.mono ?_
          rintro e w4b ⟨rfl, t4b, k4b⟩
          have r4c := r4c _ t4b
          clear r4b
          go_wp2_with fail
          refine r4c.mono ?_
          rintro e w4c ⟨rfl, t4c, k4c⟩
          have r5 := r5 _ t4c
          clear r4c
          go_wp2_with fail
          refine r5.mono ?_
          rintro e w5 ⟨rfl, t5, k5⟩
          go_wp2
          go_end0
          exact ⟨rfl, by rw [HD.out]; exact t5, (((((k0.trans k1).trans k2).trans k4).trans k4b).trans k4c).trans k5⟩

theorem sv_back (s : ByteArray) : sv s.data.toList = .string s := by
  show Value.string ⟨s.data.toList.toArray⟩ = _
  simp

set_option maxRecDepth 20000 in
set_option maxHeartbeats 1000000 in
theorem refX (K : Nat → Prop) (p : Nat) (st : TS) (w : World) (h : TX K w p st) (b : Nat) (hf : Fit b st) (hb : b ≤ 900000000) (hne : st.rest ≠ []) :
    Calls Tryd.prog 26 #[.pointer (some ⟨p, 0, none⟩)] w fun e w' => e = .returned (.tuple #[]) ∧ TX K w' p st.refr ∧ Kept K w w' := by
  have HD : Hid (st.refr = ((st.fltIf (takeL st.rest false).fault st.pl).cut (if (takeL st.rest false).n = 0 then 1 else (takeL st.rest false).n)).addT (if (takeL st.rest false).n = 0 then [38] else (takeL st.rest false).text.data.toList) st.pl) := rfl
  have hpos : 0 < st.rest.length := List.length_pos_iff.2 hne
  have hpl := hf.place
  have ht : Calls Tryd.prog 54 #[sv st.rest, .int .i64 0, .bool false] w fun e w' => e = .returned (refV (takeL st.rest false)) ∧ Kept (fun k => k < w.heap.size) w w' := by
    have := take_any ⟨st.rest.toArray⟩ 0 false (fun k => k < w.heap.size) w (fun _ h => h) (by rw [sv_size]; omega) h.tab
    have e : takeS ⟨st.rest.toArray⟩ 0 false = takeL st.rest false := by
      unfold takeS
      rw [if_pos ⟨by omega, by rw [sv_size]; omega⟩]
      rfl
    rw [e] at this
    exact this
  have hn := takeL_n st.rest false
  have htx := text_le st.rest false
  obtain ⟨R, hR⟩ : ∃ R, takeL st.rest false = R := ⟨_, rfl⟩
  rw [hR] at HD ht hn htx
  obtain ⟨tx, n, fl⟩ := R
  dsimp only at HD ht hn htx
  have H : Hid (∀ X, Kept (fun k => k < w.heap.size) w X → TX K X p st ∧ Kept K w X) := fun X hX => ⟨h.kept hX, hX.mono h.lt⟩
  obtain ⟨c0, c1⟩ := h.cells
  have fx : Fit (b + 1) (st.fltIf fl st.pl) := by
    unfold TS.fltIf
    split
    · exact hf.mono (by omega)
    · exact hf.flt _ _
  have hrl : (st.fltIf fl st.pl).rest = st.rest := by unfold TS.fltIf; split <;> rfl
  obtain ⟨n', hn'⟩ : ∃ n', (if n = 0 then 1 else n) = n' := ⟨_, rfl⟩
  obtain ⟨tl, htl⟩ : ∃ tl, (if n = 0 then [38] else tx.data.toList) = tl := ⟨_, rfl⟩
  rw [hn', htl] at HD
  have hn2 : n' ≤ st.rest.length := by rw [← hn']; split <;> omega
  have htl2 : tl.length ≤ 4 := by
    rw [← htl]
    split
    · decide
    · exact htx
  have fc := (fx.cut (n := n') (by rw [hrl]; exact hn2)).mono (b' := b + 1) (by omega)
  have r2 := fun X hX => cutX K p (st.fltIf fl st.pl) X hX n' (by rw [hrl]; exact hn2) fx.le
  have r3 := fun X hX => addTextX K p ((st.fltIf fl st.pl).cut n') X hX tl st.pl (by have := fc.room; omega)
  obtain ⟨s1, e1⟩ : ∃ s, st.fltIf fl st.pl = s := ⟨_, rfl⟩
  have HF : Hid (st.fltIf fl st.pl = s1) := e1
  rw [e1] at HD
  simp only [e1] at r2 r3
  obtain ⟨s2, e2⟩ : ∃ s, s1.cut n' = s := ⟨_, rfl⟩
  rw [e2] at HD
  simp only [e2] at r2 r3
  have r1 := fun X hX => faultX K p st X hX (by have := hf.room; omega) fl st.pl
  have htv : sv tx.data.toList = .string tx := sv_back tx
  clear h hR hf fx fc hrl e1 e2 hne hpos hpl htx hn2 htl2
  by_cases hn0 : n = 0
  · subst hn0
    rw [if_pos rfl] at hn' htl
    subst hn'
    subst htl
    by_cases hfl : fl = 0
    · subst hfl
      have HF : Hid (st = s1) := HF.out
      rw [← HF.out] at r2
      clear r1 HF htv
      go_enter Tryd.func26, Tryd.ntmps26
      go_wp2_with fail
      refine ht.mono ?_
      rintro e w1 ⟨rfl, k1⟩
      obtain ⟨t1, k1'⟩ := H.out w1 k1
      have r2 := r2 w1 t1
      clear ht c0 c1 H k1
      go_wp2_with fail
      refine r2.mono ?_
      rintro e w2 ⟨rfl, t2, k2⟩
      have r3 := r3 w2 t2
      clear r2
      go_wp2_with fail
      refine r3.mono ?_
      rintro e w3 ⟨rfl, t3, k3⟩
      go_wp2
      go_end0
      exact ⟨rfl, by rw [HD.out]; exact t3, (k1'.trans k2).trans k3⟩
    · have ef : ((fl : Int) != 0) = true := by simp; omega
      have HF : Hid (st.flt fl st.pl = s1) := by have := HF.out; unfold TS.fltIf at this; rw [if_neg hfl] at this; exact this
      rw [HF.out] at r1
      clear HF hfl htv
      go_enter Tryd.func26, Tryd.ntmps26
      go_wp2_with fail
      refine ht.mono ?_
      rintro e w1 ⟨rfl, k1⟩
      obtain ⟨t1, k1'⟩ := H.out w1 k1
      have r1 := r1 w1 t1
      clear ht c0 c1 H k1
      go_wp2_with fail
      refine r1.mono ?_
      rintro e w1b ⟨rfl, t1b, k1b⟩
      have r2 := r2 _ t1b
      clear r1
      go_wp2_with fail
      refine r2.mono ?_
      rintro e w2 ⟨rfl, t2, k2⟩
      have r3 := r3 w2 t2
      clear r2
      go_wp2_with fail
      refine r3.mono ?_
      rintro e w3 ⟨rfl, t3, k3⟩
      go_wp2
      go_end0
      exact ⟨rfl, by rw [HD.out]; exact t3, ((k1'.trans k1b).trans k2).trans k3⟩
  · have en : ((n : Int) == 0) = false := by simp; omega
    rw [if_neg hn0] at hn' htl
    subst hn'
    subst htl
    rw [htv] at r3
    by_cases hfl : fl = 0
    · subst hfl
      have HF : Hid (st = s1) := HF.out
      rw [← HF.out] at r2
      clear r1 HF htv hn0
      go_enter Tryd.func26, Tryd.ntmps26
      go_wp2_with fail
      refine ht.mono ?_
      rintro e w1 ⟨rfl, k1⟩
      obtain ⟨t1, k1'⟩ := H.out w1 k1
      have r2 := r2 w1 t1
      clear ht c0 c1 H k1
      go_wp2_with fail
      refine r2.mono ?_
      rintro e w2 ⟨rfl, t2, k2⟩
      have r3 := r3 w2 t2
      clear r2
      go_wp2_with fail
      refine r3.mono ?_
      rintro e w3 ⟨rfl, t3, k3⟩
      go_wp2
      go_end0
      exact ⟨rfl, by rw [HD.out]; exact t3, (k1'.trans k2).trans k3⟩
    · have ef : ((fl : Int) != 0) = true := by simp; omega
      have HF : Hid (st.flt fl st.pl = s1) := by have := HF.out; unfold TS.fltIf at this; rw [if_neg hfl] at this; exact this
      rw [HF.out] at r1
      clear HF hfl htv hn0
      go_enter Tryd.func26, Tryd.ntmps26
      go_wp2_with fail
      refine ht.mono ?_
      rintro e w1 ⟨rfl, k1⟩
      obtain ⟨t1, k1'⟩ := H.out w1 k1
      have r1 := r1 w1 t1
      clear ht c0 c1 H k1
      go_wp2_with fail
      refine r1.mono ?_
      rintro e w1b ⟨rfl, t1b, k1b⟩
      have r2 := r2 _ t1b
      clear r1
      go_wp2_with fail
      refine r2.mono ?_
      rintro e w2 ⟨rfl, t2, k2⟩
      have r3 := r3 w2 t2
      clear r2
      go_wp2_with fail
      refine r3.mono ?_
      rintro e w3 ⟨rfl, t3, k3⟩
      go_wp2
      go_end0
      exact ⟨rfl, by rw [HD.out]; exact t3, ((k1'.trans k1b).trans k2).trans k3⟩
end Go.Proofs.YtncfgahnjakeiaaDoor
