/-
  What Tokens answers, and that its row has room for it.
-/
import Derived.Test.YtncfgahnjakeiaaDoorTkW
namespace Go.Proofs.YtncfgahnjakeiaaDoor
open Go.RowKit

/-- What a reader holds, as its answer. -/
theorem TX.answer2 {K : Nat → Prop} {w : World} {p : Nat} {st : TS} (h : TX K w p st) : ∃ ta tc fa fc, w.cell? ⟨p, 2, none⟩ = some (.slice ta st.toks.length tc) ∧ w.cell? ⟨p, 3, none⟩ = some (.slice fa st.flts.length fc) ∧ ToksIn (fun k => k < w.heap.size) w ta st.toks ∧ FltsIn (fun k => k < w.heap.size) w fa st.flts ∧ st.toks.length ≤ tc := by
  obtain ⟨_, l1, A, l2, l3⟩ := h
  obtain ⟨h1, hA, ta, tc, tcs, fa, fc, bp, ba, bc, hb, hp, h2, h3, h4, h5⟩ := l3
  refine ⟨ta, tc, fa, fc, by rw [cell_block hb]; rfl, by rw [cell_block hb]; rfl, ?_, ?_, h2.2.1⟩
  · intro j hj
    obtain ⟨aa, ac, q1, q2⟩ := h3.get j hj
    obtain ⟨g, e, d0⟩ := h2.cell (q2 0 _ rfl)
    have all : ∀ i u, (tokCells st.toks[j] aa ac)[i]? = some u → w.cell? ⟨g, j * 6 + i, none⟩ = some u := by
      intro i u hi
      obtain ⟨g', e', d⟩ := h2.cell (q2 i u hi)
      rw [e] at e'
      injection e' with e'
      injection e' with e'
      rw [e']
      exact d
    exact ⟨g, aa, ac, e, (h2.out e).2, q1.kept (Kept.refl _ w) (fun k hk => (l2 k hk).1), all 0 _ rfl, all 1 _ rfl, all 2 _ rfl, all 3 _ rfl, all 4 _ rfl, all 5 _ rfl⟩
  · intro j hj
    obtain ⟨q1, q2⟩ := fltCells_get st.flts j hj
    obtain ⟨g, e, d0⟩ := h4.cell q1
    obtain ⟨g', e', d1⟩ := h4.cell q2
    rw [e] at e'
    injection e' with e'
    injection e' with e'
    subst e'
    exact ⟨g, e, (h4.out e).2, d0, d1⟩

set_option maxRecDepth 20000 in
set_option maxHeartbeats 1000000 in
/-- What Tokens answers, and that its row has room. -/
theorem tokens_room (s : List UInt8) (hs : s.length < 100000) (K : Nat → Prop) (w : World) (hK : ∀ k, K k → k < w.heap.size) (hT : Tab w) (h0 : K 0) (h1 : K 1) :
    Calls Tryd.prog 10 #[sv s] w fun e w' => ∃ ta tc fa fc, e = .returned (.tuple #[.slice ta (tokL s).toks.length tc, .slice fa (tokL s).flts.length fc]) ∧ ToksIn (fun k => k < w'.heap.size) w' ta (tokL s).toks ∧ FltsIn (fun k => k < w'.heap.size) w' fa (tokL s).flts ∧ (tokL s).toks.length ≤ tc ∧ Kept K w w' := by
  obtain ⟨N, hN⟩ : ∃ N, w.heap.size = N := ⟨_, rfl⟩
  have hKN : ¬ K N := fun hh => by have := hK N hh; omega
  obtain ⟨W0, hW0⟩ : ∃ W0, w.alloc (.cells #[sv s, .int .i64 0, .slice none 0 0, .slice none 0 0, .pointer none, .slice none 0 0, .int .i64 0] 47) = W0 := ⟨_, rfl⟩
  have kw0 : Kept K w W0 := by rw [← hW0]; exact (Kept.refl K w).alloc hK _
  have b0 : W0.heap[N]? = some (.cells #[sv s, .int .i64 0, .slice none 0 0, .slice none 0 0, .pointer none, .slice none 0 0, .int .i64 0] 47 (0, 0)) := by rw [← hW0, ← hN]; exact heap_alloc_new w _
  have t0 : TX K W0 N (TS.new s) := by
    refine ⟨⟨hT.kept kw0 h0 h1, h0, h1⟩, fun k hk => Nat.lt_of_lt_of_le (hK k hk) kw0.size, fun _ => False, fun _ h => h.elim, ?_⟩
    refine ⟨fun hh => ?_, fun _ h => h.elim, none, 0, [], none, 0, none, none, 0, b0, .inl rfl, OwnZ.nil _ _ _ _, rfl, OwnZ.nil _ _ _ _, Own.nil _ _ _⟩
    rcases hh with hh | hh
    · exact hKN hh
    · exact hh
  have f0 : Fit (16 * s.length) (TS.new s) := ⟨by show 0 + s.length < 1000000; omega, by show 0 + 0 + 0 + 16 * s.length ≤ _; omega⟩
  obtain ⟨R, eR⟩ : ∃ R, tokL s = R := ⟨_, rfl⟩
  rw [eR]
  have HR : Hid ((TS.new s).run = R) := eR
  have hsm : (TS.new s).rest.length < 200000 := by show s.length < 200000; omega
  clear eR b0
  have HST : Hid (TX K W0 N (TS.new s) ∧ Kept K w W0) := ⟨t0, kw0⟩
  rw [← hW0] at HST
  clear t0 kw0 hW0
  go_enter Tryd.func10, Tryd.ntmps10
  go_wp2_with fail
  go_loopg [11] s.length (fun gm v wr => ∃ st : TS, gm = st.rest.length ∧ st.run = R ∧ TX K wr N st ∧ Fit (16 * s.length) st ∧ st.rest.length < 200000 ∧ Kept K w wr)
  case atStart => exact ⟨TS.new s, rfl, HR.out, HST.out.1, f0, hsm, HST.out.2⟩
  case round =>
    clear HST f0 hsm HR
    obtain ⟨st, hgm, hR, t, fit, hsm, kp⟩ := hrel
    have r1 := atEndX K N st wr t
    by_cases hE : st.rest = []
    · have HR : Hid (st.endT = R) := by show st.endT = R; rw [← hR]; exact (run_nil hE).symm
      have r2 := endTextX K N st wr t (by have := fit.room; omega)
      rw [HR.out] at r2
      rw [hE] at r1
      clear hE hR t fit hsm HR
      go_wp2_with fail
      refine r1.mono ?_
      rintro e w1 ⟨rfl, rfl⟩
      clear r1
      go_wp2_with fail
      refine r2.mono ?_
      rintro e w2 ⟨rfl, t2, k2⟩
      obtain ⟨ta, tc, fa, fc, d2, d3, ht, hfl, hcp⟩ := t2.answer2
      have HTK : Hid (ToksIn (fun k => k < w2.heap.size) w2 ta R.toks) := ht
      have HFL : Hid (FltsIn (fun k => k < w2.heap.size) w2 fa R.flts) := hfl
      have HKP : Hid (Kept K w w2) := kp.trans k2
      have HCP : Hid (R.toks.length ≤ tc) := hcp
      clear r2 t2 k2 kp ht hfl hcp
      go_wp2_with fail
      go_quiet (fail)
      go_wp2
      go_ret2
      exact ⟨ta, tc, fa, fc, rfl, HTK.out.kept ((Kept.refl _ w2).drewN nq) (fun _ h => h), HFL.out.kept ((Kept.refl _ w2).drewN nq) (fun _ h => h), HCP.out, HKP.out.drewN nq⟩
    · have hEq : st.rest.isEmpty = false := by cases hh : st.rest with | nil => exact absurd hh hE | cons => rfl
      rw [hEq] at r1
      have r2 := nextX K N st wr t (16 * s.length) fit (by omega) hsm hE
      have hlt := (mv_next st hE).2
      have fit' := fit.next hE
      have hR' : st.next.run = R := by rw [← hR]; exact (run_next hE).symm
      clear hEq hR t fit hE
      obtain ⟨s2, es2⟩ : ∃ x, st.next = x := ⟨_, rfl⟩
      rw [es2] at hlt fit' hR' r2
      have HR : Hid (s2.run = R) := hR'
      clear es2 hR'
      go_wp2_with fail
      refine r1.mono ?_
      rintro e w1 ⟨rfl, rfl⟩
      clear r1
      go_wp2_with fail
      refine r2.mono ?_
      rintro e w2 ⟨rfl, t2, k2⟩
      go_wp2
      go_roundg s2.rest.length
      case rel => exact ⟨s2, rfl, HR.out, t2, fit', by omega, kp.trans k2⟩
      case measure => omega
theorem tokens_cap {s : List UInt8} {T : List Tk} {F : List Fl} (hT0 : (tokL s).toks = T) (hF0 : (tokL s).flts = F) (hs : s.length < 100000) (K : Nat → Prop) (w : World) (hK : ∀ k, K k → k < w.heap.size) (hT : Tab w) (h0 : K 0) (h1 : K 1) :
    Calls Tryd.prog 10 #[sv s] w fun e w' => ∃ ta tc fa fc, e = .returned (.tuple #[.slice ta T.length tc, .slice fa F.length fc]) ∧ ToksIn (fun k => k < w'.heap.size) w' ta T ∧ FltsIn (fun k => k < w'.heap.size) w' fa F ∧ T.length ≤ tc ∧ Kept K w w' := by
  have := tokens_room s hs K w hK hT h0 h1
  rw [hT0, hF0] at this
  exact this
end Go.Proofs.YtncfgahnjakeiaaDoor
