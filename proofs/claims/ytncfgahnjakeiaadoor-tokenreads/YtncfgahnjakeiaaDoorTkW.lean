/-
  What next does to the reader, and what Tokens answers.
-/
import Derived.Test.YtncfgahnjakeiaaDoorTkV
import Derived.Test.YtncfgahnjakeiaaDoorMv
namespace Go.Proofs.YtncfgahnjakeiaaDoor
open Go.RowKit

set_option maxRecDepth 20000 in
set_option maxHeartbeats 1000000 in
theorem nextX (K : Nat → Prop) (p : Nat) (st : TS) (w : World) (h : TX K w p st) (b : Nat) (hf : Fit b st) (hb : b ≤ 700000000) (hsm : st.rest.length < 200000) (hne : st.rest ≠ []) :
    Calls Tryd.prog 16 #[.pointer (some ⟨p, 0, none⟩)] w fun e w' => e = .returned (.tuple #[]) ∧ TX K w' p st.next ∧ Kept K w w' := by
  obtain ⟨c, r, hr⟩ : ∃ c r, st.rest = c :: r := by
    cases hh : st.rest with
    | nil => exact absurd hh hne
    | cons c r => exact ⟨c, r, rfl⟩
  have HD : Hid (st.next = if c = 60 then st.markup else if c = 38 then st.refr else if c = 0 then (st.flt 3 st.pl).cut 1 else (st.cutTo (hdIn [60, 38, 0])).addT (st.front (hdIn [60, 38, 0])) st.pl) := next_cons hr
  have hpos : 1 ≤ st.rest.length := List.length_pos_iff.2 hne
  obtain ⟨c0, c1⟩ := h.cells
  obtain ⟨S, hS⟩ : ∃ S : ByteArray, (⟨st.rest.toArray⟩ : ByteArray) = S := ⟨_, rfl⟩
  have sS : S.size = st.rest.length := by rw [← hS]; exact sv_size _
  have z1 : 0 < S.size := by omega
  have g0 : S[0]'z1 = c := by
    subst hS
    rw [sv_get]
    simp only [hr]
    rfl
  replace c0 : w.cell? ⟨p, 0, none⟩ = some (.string S) := by rw [← hS]; exact c0
  by_cases h1 : c = 60
  · have e1 : (((S[0]'z1).toNat : Int) == 60) = true := by rw [g0, h1]; rfl
    rw [if_pos h1] at HD
    have r1 := markupX K p st w h b hf hb hsm hne
    clear hS sS g0 hr h hf h1
    go_enter Tryd.func16, Tryd.ntmps16
    go_wp2_with fail
    refine r1.mono ?_
    rintro e w1 ⟨rfl, t1, k1⟩
    go_wp2
    go_end0
    exact ⟨rfl, by rw [HD.out]; exact t1, k1⟩
  · have e1 : (((S[0]'z1).toNat : Int) == 60) = false := by
      rw [g0]
      simp
      intro e
      exact h1 (UInt8.toNat_inj.1 (by show c.toNat = 60; omega))
    rw [if_neg h1] at HD
    by_cases h2 : c = 38
    · have e2 : (((S[0]'z1).toNat : Int) == 38) = true := by rw [g0, h2]; rfl
      rw [if_pos h2] at HD
      have r1 := refX K p st w h b hf (by omega) hne
      clear hS sS g0 hr h hf h1 h2
      go_enter Tryd.func16, Tryd.ntmps16
      go_wp2_with fail
      refine r1.mono ?_
      rintro e w1 ⟨rfl, t1, k1⟩
      go_wp2
      go_end0
      exact ⟨rfl, by rw [HD.out]; exact t1, k1⟩
    · have e2 : (((S[0]'z1).toNat : Int) == 38) = false := by
        rw [g0]
        simp
        intro e
        exact h2 (UInt8.toNat_inj.1 (by show c.toNat = 38; omega))
      rw [if_neg h2] at HD
      by_cases h3 : c = 0
      · have e3 : (((S[0]'z1).toNat : Int) == 0) = true := by rw [g0, h3]; rfl
        rw [if_pos h3] at HD
        have r1 := faultX K p st w h (by have := hf.room; omega) 3 st.pl
        have f1 := hf.flt 3 st.pl
        have r2 := fun X hX => cutX K p (st.flt 3 st.pl) X hX 1 hpos f1.le
        clear hS sS g0 hr h hf h1 h2 h3 f1
        go_enter Tryd.func16, Tryd.ntmps16
        go_wp2_with fail
        refine r1.mono ?_
        rintro e w1 ⟨rfl, t1, k1⟩
        replace r2 := r2 _ t1
        clear r1 c0 c1
        go_wp2_with fail
        refine r2.mono ?_
        rintro e w2 ⟨rfl, t2, k2⟩
        go_wp2
        go_end0
        exact ⟨rfl, by rw [HD.out]; exact t2, k1.trans k2⟩
      · have e3 : (((S[0]'z1).toNat : Int) == 0) = false := by
          rw [g0]
          simp
          intro e
          exact h3 (UInt8.toNat_inj.1 (by show c.toNat = 0; omega))
        rw [if_neg h3] at HD
        have hfr : (st.front (hdIn [60, 38, 0])).length ≤ st.rest.length := by unfold TS.front; rw [List.length_take]; omega
        have f1 := hf.cutTo (hdIn [60, 38, 0])
        have r1 := oneX K p st w.drew h.drew [60, 38, 0]
        have r2 := fun X hX => cutOneX K p st X hX hf.le [60, 38, 0]
        have r3 := fun X hX => addTextX K p (st.cutTo (hdIn [60, 38, 0])) X hX (st.front (hdIn [60, 38, 0])) st.pl (by have := f1.room; omega)
        obtain ⟨s1, es1⟩ : ∃ s, st.cutTo (hdIn [60, 38, 0]) = s := ⟨_, rfl⟩
        obtain ⟨v, ev⟩ : ∃ s, st.front (hdIn [60, 38, 0]) = s := ⟨_, rfl⟩
        rw [es1, ev] at HD
        simp only [es1, ev] at r2 r3
        clear hS sS g0 hr h hf h1 h2 h3 f1 hfr es1 ev
        go_enter Tryd.func16, Tryd.ntmps16
        go_wp2_with fail
        go_region_with (first | (refine r1.mono ?_; rintro e w1 ⟨rfl, t1, l1, d1, k1⟩; have r2 := r2 w1 t1 _ l1 d1) | (refine r2.mono ?_; rintro e w2 ⟨rfl, t2, k2⟩; have r3 := r3 w2 t2) | (refine r3.mono ?_; rintro e w3 ⟨rfl, t3, k3⟩))
        go_wp2
        go_end0
        exact ⟨rfl, by rw [HD.out]; exact t3, (Kept.refl K w).drew.trans (k1.trans (k2.trans k3))⟩

theorem runF_enough : ∀ (f g : Nat) (s : TS), s.rest.length ≤ f → s.rest.length ≤ g → TS.runF f s = TS.runF g s
  | 0, 0, _, _, _ => rfl
  | 0, g + 1, s, h, _ => by
    have : s.rest = [] := List.eq_nil_of_length_eq_zero (by omega)
    rw [TS.runF, TS.runF, if_pos this]
  | f + 1, 0, s, _, h => by
    have : s.rest = [] := List.eq_nil_of_length_eq_zero (by omega)
    rw [TS.runF, TS.runF, if_pos this]
  | f + 1, g + 1, s, hf, hg => by
    rw [TS.runF, TS.runF]
    split
    · rfl
    · rename_i h
      have := (mv_next s h).2
      exact runF_enough f g _ (by omega) (by omega)
theorem run_nil {s : TS} (h : s.rest = []) : s.run = s.endT := by
  unfold TS.run
  rw [h]
  rfl
theorem run_next {s : TS} (h : s.rest ≠ []) : s.run = s.next.run := by
  have hp : 0 < s.rest.length := List.length_pos_iff.2 h
  have := (mv_next s h).2
  unfold TS.run
  obtain ⟨n, hn⟩ : ∃ n, s.rest.length = n + 1 := ⟨s.rest.length - 1, by omega⟩
  rw [hn, TS.runF, if_neg h]
  exact runF_enough _ _ _ (by omega) (Nat.le_refl _)

/-- Tokens lie at a slice whose block is kept. -/
def ToksIn (K : Nat → Prop) (w : World) (ta : Option Addr) (l : List Tk) : Prop :=
  ∀ j (h : j < l.length), ∃ g aa ac, ta = some ⟨g, 0, none⟩ ∧ K g ∧ AtsIn K w aa l[j].attrs ∧ w.cell? ⟨g, j * 6, none⟩ = some (.int .u8 (l[j].kind : Int)) ∧ w.cell? ⟨g, j * 6 + 1, none⟩ = some (sv l[j].name) ∧ w.cell? ⟨g, j * 6 + 2, none⟩ = some (.slice aa l[j].attrs.length ac) ∧
    w.cell? ⟨g, j * 6 + 3, none⟩ = some (.bool l[j].self) ∧ w.cell? ⟨g, j * 6 + 4, none⟩ = some (sv l[j].data) ∧ w.cell? ⟨g, j * 6 + 5, none⟩ = some (.int .i64 (l[j].pl : Int))
def FltsIn (K : Nat → Prop) (w : World) (fa : Option Addr) (l : List Fl) : Prop :=
  ∀ j (h : j < l.length), ∃ g, fa = some ⟨g, 0, none⟩ ∧ K g ∧ w.cell? ⟨g, j * 2, none⟩ = some (.int .u8 (l[j].kind : Int)) ∧ w.cell? ⟨g, j * 2 + 1, none⟩ = some (.int .i64 (l[j].pl : Int))
theorem ToksIn.kept {K K' : Nat → Prop} {w w' : World} {ta : Option Addr} {l : List Tk} (h : ToksIn K w ta l) (hk : Kept K w w') (hm : ∀ k, K k → K' k) : ToksIn K' w' ta l := fun j hj => by
  obtain ⟨g, aa, ac, h1, h2, h3, c0, c1, c2, c3, c4, c5⟩ := h j hj
  have e : ∀ i, w'.cell? ⟨g, i, none⟩ = w.cell? ⟨g, i, none⟩ := fun i => hk.cell (p := ⟨g, i, none⟩) h2
  exact ⟨g, aa, ac, h1, hm g h2, h3.kept hk hm, by rw [e]; exact c0, by rw [e]; exact c1, by rw [e]; exact c2, by rw [e]; exact c3, by rw [e]; exact c4, by rw [e]; exact c5⟩
theorem FltsIn.kept {K K' : Nat → Prop} {w w' : World} {fa : Option Addr} {l : List Fl} (h : FltsIn K w fa l) (hk : Kept K w w') (hm : ∀ k, K k → K' k) : FltsIn K' w' fa l := fun j hj => by
  obtain ⟨g, h1, h2, c0, c1⟩ := h j hj
  have e : ∀ i, w'.cell? ⟨g, i, none⟩ = w.cell? ⟨g, i, none⟩ := fun i => hk.cell (p := ⟨g, i, none⟩) h2
  exact ⟨g, h1, hm g h2, by rw [e]; exact c0, by rw [e]; exact c1⟩

/-- What a reader holds, as its answer. -/
theorem TX.answer {K : Nat → Prop} {w : World} {p : Nat} {st : TS} (h : TX K w p st) : ∃ ta tc fa fc, w.cell? ⟨p, 2, none⟩ = some (.slice ta st.toks.length tc) ∧ w.cell? ⟨p, 3, none⟩ = some (.slice fa st.flts.length fc) ∧ ToksIn (fun k => k < w.heap.size) w ta st.toks ∧ FltsIn (fun k => k < w.heap.size) w fa st.flts := by
  obtain ⟨_, l1, A, l2, l3⟩ := h
  obtain ⟨h1, hA, ta, tc, tcs, fa, fc, bp, ba, bc, hb, hp, h2, h3, h4, h5⟩ := l3
  refine ⟨ta, tc, fa, fc, by rw [cell_block hb]; rfl, by rw [cell_block hb]; rfl, ?_, ?_⟩
  · intro j hj
    obtain ⟨aa, ac, q1, q2⟩ := h3.get j hj
    obtain ⟨g, e, d0⟩ := h2.cell (q2 0 _ rfl)
    have all : ∀ i u, (tokCells st.toks[j] aa ac)[i]? = some u → w.cell? ⟨g, j * 6 + i, none⟩ = some u := by
      intro i u hi
      obtain ⟨g', e', d⟩ := h2.cell (q2 i u hi)
      rw [e] at e'
      injection e' with e'
      injection e' with e'
      rw [e']
      exact d
    exact ⟨g, aa, ac, e, (h2.out e).2, q1.kept (Kept.refl _ w) (fun k hk => (l2 k hk).1), all 0 _ rfl, all 1 _ rfl, all 2 _ rfl, all 3 _ rfl, all 4 _ rfl, all 5 _ rfl⟩
  · intro j hj
    obtain ⟨q1, q2⟩ := fltCells_get st.flts j hj
    obtain ⟨g, e, d0⟩ := h4.cell q1
    obtain ⟨g', e', d1⟩ := h4.cell q2
    rw [e] at e'
    injection e' with e'
    injection e' with e'
    subst e'
    exact ⟨g, e, (h4.out e).2, d0, d1⟩

set_option maxRecDepth 20000 in
set_option maxHeartbeats 1000000 in
/-- WHAT Tokens ANSWERS. -/
theorem tokens_any (s : List UInt8) (hs : s.length < 100000) (K : Nat → Prop) (w : World) (hK : ∀ k, K k → k < w.heap.size) (hT : Tab w) (h0 : K 0) (h1 : K 1) :
    Calls Tryd.prog 10 #[sv s] w fun e w' => ∃ ta tc fa fc, e = .returned (.tuple #[.slice ta (tokL s).toks.length tc, .slice fa (tokL s).flts.length fc]) ∧ ToksIn (fun k => k < w'.heap.size) w' ta (tokL s).toks ∧ FltsIn (fun k => k < w'.heap.size) w' fa (tokL s).flts ∧ Kept K w w' := by
  obtain ⟨N, hN⟩ : ∃ N, w.heap.size = N := ⟨_, rfl⟩
  have hKN : ¬ K N := fun hh => by have := hK N hh; omega
  obtain ⟨W0, hW0⟩ : ∃ W0, w.alloc (.cells #[sv s, .int .i64 0, .slice none 0 0, .slice none 0 0, .pointer none, .slice none 0 0, .int .i64 0] 47) = W0 := ⟨_, rfl⟩
  have kw0 : Kept K w W0 := by rw [← hW0]; exact (Kept.refl K w).alloc hK _
  have b0 : W0.heap[N]? = some (.cells #[sv s, .int .i64 0, .slice none 0 0, .slice none 0 0, .pointer none, .slice none 0 0, .int .i64 0] 47 (0, 0)) := by rw [← hW0, ← hN]; exact heap_alloc_new w _
  have t0 : TX K W0 N (TS.new s) := by
    refine ⟨⟨hT.kept kw0 h0 h1, h0, h1⟩, fun k hk => Nat.lt_of_lt_of_le (hK k hk) kw0.size, fun _ => False, fun _ h => h.elim, ?_⟩
    refine ⟨fun hh => ?_, fun _ h => h.elim, none, 0, [], none, 0, none, none, 0, b0, .inl rfl, OwnZ.nil _ _ _ _, rfl, OwnZ.nil _ _ _ _, Own.nil _ _ _⟩
    rcases hh with hh | hh
    · exact hKN hh
    · exact hh
  have f0 : Fit (16 * s.length) (TS.new s) := ⟨by show 0 + s.length < 1000000; omega, by show 0 + 0 + 0 + 16 * s.length ≤ _; omega⟩
  obtain ⟨R, eR⟩ : ∃ R, tokL s = R := ⟨_, rfl⟩
  rw [eR]
  have HR : Hid ((TS.new s).run = R) := eR
  have hsm : (TS.new s).rest.length < 200000 := by show s.length < 200000; omega
  clear eR b0
  have HST : Hid (TX K W0 N (TS.new s) ∧ Kept K w W0) := ⟨t0, kw0⟩
  rw [← hW0] at HST
  clear t0 kw0 hW0
  go_enter Tryd.func10, Tryd.ntmps10
  go_wp2_with fail
  go_loopg [11] s.length (fun gm v wr => ∃ st : TS, gm = st.rest.length ∧ st.run = R ∧ TX K wr N st ∧ Fit (16 * s.length) st ∧ st.rest.length < 200000 ∧ Kept K w wr)
  case atStart => exact ⟨TS.new s, rfl, HR.out, HST.out.1, f0, hsm, HST.out.2⟩
  case round =>
    clear HST f0 hsm HR
    obtain ⟨st, hgm, hR, t, fit, hsm, kp⟩ := hrel
    have r1 := atEndX K N st wr t
    by_cases hE : st.rest = []
    · have HR : Hid (st.endT = R) := by show st.endT = R; rw [← hR]; exact (run_nil hE).symm
      have r2 := endTextX K N st wr t (by have := fit.room; omega)
      rw [HR.out] at r2
      rw [hE] at r1
      clear hE hR t fit hsm HR
      go_wp2_with fail
      refine r1.mono ?_
      rintro e w1 ⟨rfl, rfl⟩
      clear r1
      go_wp2_with fail
      refine r2.mono ?_
      rintro e w2 ⟨rfl, t2, k2⟩
      obtain ⟨ta, tc, fa, fc, d2, d3, ht, hfl⟩ := t2.answer
      have HTK : Hid (ToksIn (fun k => k < w2.heap.size) w2 ta R.toks) := ht
      have HFL : Hid (FltsIn (fun k => k < w2.heap.size) w2 fa R.flts) := hfl
      have HKP : Hid (Kept K w w2) := kp.trans k2
      clear r2 t2 k2 kp ht hfl
      go_wp2_with fail
      go_quiet (fail)
      go_wp2
      go_ret2
      exact ⟨ta, tc, fa, fc, rfl, HTK.out.kept ((Kept.refl _ w2).drewN nq) (fun _ h => h), HFL.out.kept ((Kept.refl _ w2).drewN nq) (fun _ h => h), HKP.out.drewN nq⟩
    · have hEq : st.rest.isEmpty = false := by cases hh : st.rest with | nil => exact absurd hh hE | cons => rfl
      rw [hEq] at r1
      have r2 := nextX K N st wr t (16 * s.length) fit (by omega) hsm hE
      have hlt := (mv_next st hE).2
      have fit' := fit.next hE
      have hR' : st.next.run = R := by rw [← hR]; exact (run_next hE).symm
      clear hEq hR t fit hE
      obtain ⟨s2, es2⟩ : ∃ x, st.next = x := ⟨_, rfl⟩
      rw [es2] at hlt fit' hR' r2
      have HR : Hid (s2.run = R) := hR'
      clear es2 hR'
      go_wp2_with fail
      refine r1.mono ?_
      rintro e w1 ⟨rfl, rfl⟩
      clear r1
      go_wp2_with fail
      refine r2.mono ?_
      rintro e w2 ⟨rfl, t2, k2⟩
      go_wp2
      go_roundg s2.rest.length
      case rel => exact ⟨s2, rfl, HR.out, t2, fit', by omega, kp.trans k2⟩
      case measure => omega
end Go.Proofs.YtncfgahnjakeiaaDoor
