/-
  WHAT THE DOCUMENT'S READER ANSWERS: portiereref06.Tokens.
-/
import Derived.Test.YtffllhohlfblnaaDV
namespace Go.Proofs.Ytffllhohlfblnaa
open Go.RowKit Go.Sort


/-- Tokens lie at a slice whose block is kept. -/
def ToksIn (K : Nat → Prop) (w : World) (ta : Option Addr) (l : List Tk) : Prop :=
  ∀ j (h : j < l.length), ∃ g aa ac, ta = some ⟨g, 0, none⟩ ∧ K g ∧ AtsIn K w aa l[j].attrs ∧ w.cell? ⟨g, j * 6, none⟩ = some (.int .u8 (l[j].kind : Int)) ∧ w.cell? ⟨g, j * 6 + 1, none⟩ = some (sv l[j].name) ∧ w.cell? ⟨g, j * 6 + 2, none⟩ = some (.slice aa l[j].attrs.length ac) ∧
    w.cell? ⟨g, j * 6 + 3, none⟩ = some (.bool l[j].self) ∧ w.cell? ⟨g, j * 6 + 4, none⟩ = some (sv l[j].data) ∧ w.cell? ⟨g, j * 6 + 5, none⟩ = some (.int .i64 (l[j].pl : Int))
def FltsIn (K : Nat → Prop) (w : World) (fa : Option Addr) (l : List Fl) : Prop :=
  ∀ j (h : j < l.length), ∃ g, fa = some ⟨g, 0, none⟩ ∧ K g ∧ w.cell? ⟨g, j * 2, none⟩ = some (.int .u8 (l[j].kind : Int)) ∧ w.cell? ⟨g, j * 2 + 1, none⟩ = some (.int .i64 (l[j].pl : Int))
theorem ToksIn.kept {K K' : Nat → Prop} {w w' : World} {ta : Option Addr} {l : List Tk} (h : ToksIn K w ta l) (hk : Kept K w w') (hm : ∀ k, K k → K' k) : ToksIn K' w' ta l := fun j hj => by
  obtain ⟨g, aa, ac, h1, h2, h3, c0, c1, c2, c3, c4, c5⟩ := h j hj
  have e : ∀ i, w'.cell? ⟨g, i, none⟩ = w.cell? ⟨g, i, none⟩ := fun i => hk.cell (p := ⟨g, i, none⟩) h2
  exact ⟨g, aa, ac, h1, hm g h2, h3.kept hk hm, by rw [e]; exact c0, by rw [e]; exact c1, by rw [e]; exact c2, by rw [e]; exact c3, by rw [e]; exact c4, by rw [e]; exact c5⟩
theorem FltsIn.kept {K K' : Nat → Prop} {w w' : World} {fa : Option Addr} {l : List Fl} (h : FltsIn K w fa l) (hk : Kept K w w') (hm : ∀ k, K k → K' k) : FltsIn K' w' fa l := fun j hj => by
  obtain ⟨g, h1, h2, c0, c1⟩ := h j hj
  have e : ∀ i, w'.cell? ⟨g, i, none⟩ = w.cell? ⟨g, i, none⟩ := fun i => hk.cell (p := ⟨g, i, none⟩) h2
  exact ⟨g, h1, hm g h2, by rw [e]; exact c0, by rw [e]; exact c1⟩

theorem DX.answer {s : List UInt8} {K : Nat → Prop} {w : World} {p : Nat} {st : TS} (h : DX s K w p st) : ∃ ta tc fa fc, w.cell? ⟨p, 2, none⟩ = some (.slice ta st.toks.length tc) ∧ w.cell? ⟨p, 3, none⟩ = some (.slice fa st.flts.length fc) ∧ ToksIn (fun k => k < w.heap.size) w ta st.toks ∧ FltsIn (fun k => k < w.heap.size) w fa st.flts ∧ st.toks.length ≤ tc ∧ st.flts.length ≤ fc := by
  obtain ⟨l1, l2, l3, A, ta, tc, tcs, fa, fc, ba, bc, z, hA, hb, hz, hS, h3⟩ := h
  have h2 : OwnZ _ w 43 6 ta st.toks.length tc tcs := hS.1 0 _ rfl
  have h4 : OwnZ _ w 48 2 fa st.flts.length fc (fltCells st.flts) := hS.1 1 _ rfl
  refine ⟨ta, tc, fa, fc, by rw [cell_block hb]; rfl, by rw [cell_block hb]; rfl, ?_, ?_, h2.2.1, h4.2.1⟩
  · intro j hj
    obtain ⟨aa, ac, q1, q2⟩ := h3.get j hj
    obtain ⟨g, e, d0⟩ := h2.cell (q2 0 _ rfl)
    have all : ∀ i u, (tokCells st.toks[j] aa ac)[i]? = some u → w.cell? ⟨g, j * 6 + i, none⟩ = some u := by
      intro i u hi
      obtain ⟨g', e', d⟩ := h2.cell (q2 i u hi)
      rw [e] at e'
      injection e' with e'
      injection e' with e'
      rw [e']
      exact d
    exact ⟨g, aa, ac, e, (h2.out e).2, q1.kept (Kept.refl _ w) (fun k hk => (hA k hk).1), all 0 _ rfl, all 1 _ rfl, all 2 _ rfl, all 3 _ rfl, all 4 _ rfl, all 5 _ rfl⟩
  · intro j hj
    obtain ⟨q1, q2⟩ := fltCells_get st.flts j hj
    obtain ⟨g, e, d0⟩ := h4.cell q1
    obtain ⟨g', e', d1⟩ := h4.cell q2
    rw [e] at e'
    injection e' with e'
    injection e' with e'
    subst e'
    exact ⟨g, e, (h4.out e).2, d0, d1⟩

theorem Step.fit {b : Nat} {st D : TS} (h : Step st D) (hf : Fit b st) (hne : st.rest ≠ []) : Fit b D ∧ D.rest.length < st.rest.length := by
  obtain ⟨⟨N, hN, hD⟩, -⟩ := h
  have hE := endT_rest st
  have hN' : Fit b N ∧ N.rest.length < st.rest.length := by
    rcases hN with rfl | rfl
    · exact ⟨hf.next hne, (mv_next st hne).2⟩
    · have hne' : st.endT.rest ≠ [] := by rw [hE.1]; exact hne
      have := (mv_next st.endT hne').2
      rw [hE.1] at this
      exact ⟨hf.endT.next hne', this⟩
  rcases hD with rfl | rfl
  · exact hN'
  · have hE2 := endT_rest N
    exact ⟨hN'.1.endT, by rw [hE2.1]; exact hN'.2⟩
theorem Fit.plain1 {b : Nat} {st : TS} (hf : Fit b st) {c : UInt8} (hne : st.rest ≠ []) : Fit b ((st.cut 1).addT [c] st.pl) ∧ ((st.cut 1).addT [c] st.pl).rest.length < st.rest.length := by
  have hp : 1 ≤ st.rest.length := List.length_pos_iff.2 hne
  have hb : 16 ≤ b := by have := hf.room; unfold pot at this; omega
  refine ⟨((hf.cut hp).addT _ _).mono (by simp only [List.length_cons, List.length_nil]; omega), ?_⟩
  rw [(addT_rest _ _ _).1]
  simp only [TS.cut, List.length_drop]
  omega

theorem enter21 (args : Array Value) (X : World) : (callFunc 21 args).run Try.prog X = .ok (.enter 21 args) X := entersE Try.func21 (by kernel_rfl) (c := _) rfl args X

set_option maxRecDepth 20000 in
set_option maxHeartbeats 20000000 in
/-- WHAT THE DOCUMENT'S Tokens ANSWERS. -/
theorem dtokens (s : List UInt8) (hs : s.length < 100000) (K : Nat → Prop) (w : World) (hK : ∀ k, K k → k < w.heap.size) :
    Calls Try.prog 10 #[sv s] w fun e w' => ∃ ta tc fa fc, e = .returned (.tuple #[.slice ta (tokL s).toks.length tc, .slice fa (tokL s).flts.length fc]) ∧ ToksIn (fun k => k < w'.heap.size) w' ta (tokL s).toks ∧ FltsIn (fun k => k < w'.heap.size) w' fa (tokL s).flts ∧ Kept K w w' ∧ (tokL s).toks.length ≤ tc ∧ (tokL s).flts.length ≤ fc := by
  obtain ⟨N, hN⟩ : ∃ N, w.heap.size = N := ⟨_, rfl⟩
  have hKN : ¬ K N := fun hh => by have := hK N hh; omega
  obtain ⟨W0, hW0⟩ : ∃ W0, w.alloc (.cells #[sv s, .int .i64 0, .slice none 0 0, .slice none 0 0, .slice none 0 0, .int .i64 0] 55) = W0 := ⟨_, rfl⟩
  have kw0 : Kept K w W0 := by rw [← hW0]; exact (Kept.refl K w).alloc hK _
  have b0 : W0.heap[N]? = some (.cells #[sv s, .int .i64 0, .slice none 0 0, .slice none 0 0, .slice none 0 0, .int .i64 0] 55 (0, 0)) := by rw [← hW0, ← hN]; exact heap_alloc_new w _
  have t0 : DX s K W0 N (TS.new s) := by
    refine ⟨fun k hk => Nat.lt_of_lt_of_le (hK k hk) kw0.size, hKN, ⟨Nat.zero_le _, rfl⟩, fun _ => False, none, 0, [], none, 0, none, 0, 0, fun _ h => h.elim, b0, fun h => absurd rfl h, ?_, rfl⟩
    refine Sep.cons (Sep.cons (Sep.cons (Sep.nil _ _) (OwnZ.nil _ _ _ _) ?_) (OwnZ.nil _ _ _ _) ?_) (OwnZ.nil _ _ _ _) ?_ <;> (intro i r hi g hg; cases hg)
  have f0 : Fit (16 * s.length) (TS.new s) := ⟨by show 0 + s.length < 1000000; omega, by show 0 + 0 + 0 + 16 * s.length ≤ _; omega⟩
  obtain ⟨R, eR⟩ : ∃ R, tokL s = R := ⟨_, rfl⟩
  rw [eR]
  have HR : Hid ((TS.new s).run = R) := eR
  clear eR b0
  have HST : Hid (DX s K W0 N (TS.new s) ∧ Kept K w W0) := ⟨t0, kw0⟩
  obtain ⟨S, hS⟩ : ∃ S : ByteArray, (⟨s.toArray⟩ : ByteArray) = S := ⟨_, rfl⟩
  have HSS : Hid (S.size = s.length) := by show _ = _; rw [← hS]; exact sv_size _
  have hzS : S.size < 100000 := by have := HSS.out; omega
  rw [← hW0] at HST
  have HS : Hid ((⟨s.toArray⟩ : ByteArray) = S) := hS
  have HF0 : Hid (Fit (16 * s.length) (TS.new s)) := f0
  rw [show sv s = .string S from by rw [← hS]]
  rw [show sv s = .string S from by rw [← hS]] at HST
  clear t0 kw0 hW0 hS f0
  go_enter Try.func10, Try.ntmps10
  go_wp2_with fail
  go_loopg [5] s.length (fun gm v wr => ∃ st : TS, gm = st.rest.length ∧ st.run = R ∧ DX s K wr N st ∧ Fit (16 * s.length) st ∧ Kept K w wr)
  case atStart => exact ⟨TS.new s, rfl, HR.out, HST.out.1, HF0.out, HST.out.2⟩
  case round =>
    clear HST HF0 HR
    obtain ⟨st, hgm, hR, hX, fit, kp⟩ := hrel
    obtain ⟨c0, c1, -⟩ := hX.cells
    replace c0 : wr.cell? ⟨N, 0, none⟩ = some (.string S) := by rw [← HS.out]; exact c0
    have hlen := hX.len
    rw [← HSS.out] at hlen
    have hroom := fit.room
    obtain ⟨b, hb⟩ : ∃ b, st.pl = b := ⟨_, rfl⟩
    rw [hb] at c1 hlen
    cases hE : st.rest with
    | nil =>
      have e1 : decide ((b : Int) < (S.size : Int)) = false := decide_eq_false (by rw [hE] at hlen; simp only [List.length_nil] at hlen; omega)
      have n1 : ¬ b < S.size := by rw [hE] at hlen; simp only [List.length_nil] at hlen; omega
      have HRE : Hid (st.endT = R) := by show st.endT = R; rw [← hR]; exact (run_nil hE).symm
      have r2 := fun X hX => ddone s K N st X hX (by omega)
      rw [HRE.out] at r2
      have HX : Hid (DX s K wr N st ∧ Kept K w wr) := ⟨hX, kp⟩
      clear hX kp fit hR hb hgm hlen hE HRE hroom
      go_wp2_with fail
      refine Calls.mono (r2 _ (by repeat (first | exact HX.out.1 | refine DX.drewN ?_ _))) ?_
      rintro e w2 ⟨rfl, x2, k2⟩
      replace k2 := Kept.trans (show Kept K w _ by repeat (first | exact HX.out.2 | refine Kept.drewN ?_ _)) k2
      obtain ⟨ta, tc, fa, fc, d2, d3, ht, hfl, hcap⟩ := x2.answer
      have HCAP : Hid (R.toks.length ≤ tc ∧ R.flts.length ≤ fc) := hcap
      have HTK : Hid (ToksIn (fun k => k < w2.heap.size) w2 ta R.toks) := ht
      have HFL : Hid (FltsIn (fun k => k < w2.heap.size) w2 fa R.flts) := hfl
      have HKP : Hid (Kept K w w2) := k2
      clear r2 x2 k2 ht hfl HX c0 c1 hcap
      go_wp2_with fail
      go_quiet (fail)
      go_wp2
      go_ret2
      exact ⟨ta, tc, fa, fc, rfl, HTK.out.kept (by repeat (first | exact Kept.refl _ w2 | refine Kept.drewN ?_ _)) (fun _ h => h), HFL.out.kept (by repeat (first | exact Kept.refl _ w2 | refine Kept.drewN ?_ _)) (fun _ h => h), by repeat (first | exact HKP.out | refine Kept.drewN ?_ _), HCAP.out⟩
    | cons c r =>
      have hne : st.rest ≠ [] := by rw [hE]; exact List.cons_ne_nil _ _
      have hp1 : 1 ≤ st.rest.length := List.length_pos_iff.2 hne
      have n1 : b < S.size := by omega
      have i1 : (b : Int) < (S.size : Int) := by omega
      have i2 : decide ((b : Int) < (S.size : Int)) = true := decide_eq_true i1
      obtain ⟨hlt, hcc⟩ := hX.byteAt (n := 0) (c := c) (r := r) hE HS.out
      have hcc2 : S[b]'n1 = c := by
        subst hb
        exact hcc
      have HX : Hid (DX s K wr N st ∧ Kept K w wr) := ⟨hX, kp⟩
      by_cases h60 : c = 60
      · have q1 : (((S[b]'n1).toNat : Int) == 60) = true := by rw [hcc2, h60]; rfl
        have l1 := fun X hX => dopens s K N st X hX hs (by omega) r (by rw [hE, h60])
        have HST : Hid (∀ D, Step st D → D.run = R ∧ Fit (16 * s.length) D ∧ D.rest.length < gk) := by
          intro D hD
          rw [hgm]
          exact ⟨hD.2.trans hR, hD.fit fit hne⟩
        clear hX kp fit hR hb hlen hE hroom hne hp1 hlt hcc hcc2 h60 hgm
        go_wp2_with fail
        refine Calls.mono (l1 _ (by repeat (first | exact HX.out.1 | refine DX.drewN ?_ _))) ?_
        rintro e w2 ⟨rfl, D, d2, x2, k2⟩
        replace k2 := Kept.trans (show Kept K w _ by repeat (first | exact HX.out.2 | refine Kept.drewN ?_ _)) k2
        obtain ⟨g1, g2, g3⟩ := HST.out D d2
        have HG : Hid (D.run = R ∧ Fit (16 * s.length) D) := ⟨g1, g2⟩
        clear l1 HX HST c0 c1 d2 g1 g2
        go_wp2
        go_roundg D.rest.length
        case rel => exact ⟨D, rfl, HG.out.1, x2, HG.out.2, k2⟩
        case measure => omega
      · have q1 : (((S[b]'n1).toNat : Int) == 60) = false := by rw [hcc2]; exact u8_ne (d := 60) h60
        by_cases h0 : c = 0
        · have q2 : (((S[b]'n1).toNat : Int) == 0) = true := by rw [hcc2, h0]; rfl
          have l1 := fun X hX => dfault s K N st X hX (by omega) 3 b
          have HC : Hid (∀ X, DX s K X N (st.flt 3 b) → X.cell? ⟨N, 1, none⟩ = some (.int .i64 (b : Int)) ∧ X.frozen? ⟨N, 1, none⟩ = false ∧ DX s K (X.setCell ⟨N, 1, none⟩ (.int .i64 ((b : Int) + 1))) N ((st.flt 3 b).cut 1) ∧ Kept K X (X.setCell ⟨N, 1, none⟩ (.int .i64 ((b : Int) + 1)))) := by
            intro X hX
            obtain ⟨q1, q2⟩ := hX.cutAt (m := 1) hp1 (n := (b : Int) + 1) (by show _ = ((st.pl + 1 : Nat) : Int); rw [hb]; omega)
            have c1 := hX.cells.2.1
            rw [show (st.flt 3 b).pl = b from hb] at c1
            exact ⟨c1, hX.cells.2.2 1, q1, q2⟩
          have hnx : (st.flt 3 b).cut 1 = st.next := by rw [next_cons hE, if_neg h60, if_neg (by rw [h0]; decide), if_pos h0, hb]
          have HD : Hid (((st.flt 3 b).cut 1).run = R ∧ Fit (16 * s.length) ((st.flt 3 b).cut 1)) := by
            rw [hnx]
            exact ⟨(run_next hne).symm.trans hR, fit.next hne⟩
          have hlt2 : ((st.flt 3 b).cut 1).rest.length < gk := by rw [hnx, hgm]; exact (mv_next st hne).2
          obtain ⟨D, hDe⟩ : ∃ D, (st.flt 3 b).cut 1 = D := ⟨_, rfl⟩
          rw [hDe] at HD HC hlt2
          have hw3 : Hid (wrap64 ((b : Int) + 1) = (b : Int) + 1) := IntWalk.wrap64_in _ (by omega)
          clear hX kp fit hR hb hlen hE hroom hne hp1 hlt hcc hcc2 h60 hgm h0 hnx hDe
          go_wp2_with fail
          refine Calls.mono (l1 _ (by repeat (first | exact HX.out.1 | refine DX.drewN ?_ _))) ?_
          rintro e w2 ⟨rfl, x2, k2⟩
          replace k2 := Kept.trans (show Kept K w _ by repeat (first | exact HX.out.2 | refine Kept.drewN ?_ _)) k2
          obtain ⟨d1, f1, x3, k3⟩ := HC.out w2 x2
          have HF : Hid (DX s K (w2.setCell ⟨N, 1, none⟩ (.int .i64 ((b : Int) + 1))) N D ∧ Kept K w (w2.setCell ⟨N, 1, none⟩ (.int .i64 ((b : Int) + 1)))) := ⟨x3, k2.trans k3⟩
          clear l1 HX HC x2 k2 x3 k3 c0 c1
          go_wp2
          go_roundg D.rest.length
          case rel =>
            try rw [hw3.out]
            exact ⟨D, rfl, HD.out.1, HF.out.1, HD.out.2, HF.out.2⟩
          case measure => omega
        · have q2 : (((S[b]'n1).toNat : Int) == 0) = false := by rw [hcc2]; exact u8_ne (d := 0) h0
          by_cases h38 : c = 38
          · have q3 : (((S[b]'n1).toNat : Int) == 38) = true := by rw [hcc2, h38]; rfl
            have l0 := fun X => rtake_any S b false (fun k => k < X.heap.size) X (fun _ h => h) (by omega)
            have hSd : S.data.toList.drop b = st.rest := by
              rw [hX.2.2.1.2, hb, ← HS.out]
            rw [takeS_at n1 false, hSd] at l0
            have hnx : st.refr = st.next := by rw [next_cons hE, if_neg h60, if_pos h38]
            have htl := takeL_n st.rest false
            have htx : (takeL st.rest false).text.data.toList.length ≤ 4 := text_le st.rest false
            have hfl := fault_le st.rest false
            have HD : Hid (st.refr.run = R ∧ Fit (16 * s.length) st.refr) := by
              rw [hnx]
              exact ⟨(run_next hne).symm.trans hR, fit.next hne⟩
            have hlt2 : st.refr.rest.length < gk := by rw [hnx, hgm]; exact (mv_next st hne).2
            unfold TS.refr at HD hlt2
            obtain ⟨RF, hRF⟩ : ∃ RF, takeL st.rest false = RF := ⟨_, rfl⟩
            rw [hRF] at l0 htl htx hfl HD hlt2
            obtain ⟨tx, n, fl⟩ := RF
            dsimp only at l0 htl htx hfl HD hlt2
            clear hRF hnx
            have HB : Hid (st.pl = b) := hb
            by_cases hf : fl = 0
            · by_cases hn : n = 0
              · have q4 : (((fl : Nat) : Int) != 0) = false := by rw [hf]; rfl
                have q5 : decide (((n : Nat) : Int) > 0) = false := by simp; omega
                have q6 : ¬ 0 < n := by omega
                rw [show st.fltIf fl st.pl = st by unfold TS.fltIf; rw [if_pos hf]] at HD hlt2
                rw [if_pos hn, if_pos hn] at HD hlt2
                have l2 := fun X hX => dtext s K N st X hX [38] 1 (by show 1 ≤ st.rest.length; omega) (by omega) (by unfold pot at hroom ⊢; show st.toks.length + st.flts.length + st.text.length + 16 * st.rest.length + _ ≤ _; (try simp only [List.length_cons, List.length_nil]); omega)
                rw [hb] at l2
                rw [hb] at HD hlt2
                obtain ⟨D, hDe⟩ : ∃ D, (st.cut 1).addT [38] b = D := ⟨_, rfl⟩
                rw [hDe] at HD hlt2 l2
                clear hX kp fit hR hb hlen hE hroom hne hp1 hlt hcc hcc2 h60 hgm h0 h38 hSd hDe htl htx
                go_wp2_with fail
                refine Calls.mono (l0 _) ?_
                rintro e w1 ⟨rfl, k1⟩
                have HX1 : Hid (DX s K w1 N st ∧ Kept K w w1) := ⟨HX.out.1.kept k1, HX.out.2.trans (k1.mono fun k hk => HX.out.1.lt k hk)⟩
                have d1 : w1.cell? ⟨N, 1, none⟩ = some (.int .i64 (b : Int)) := by rw [← HB.out]; exact HX1.out.1.cells.2.1
                clear l0 k1 HX c0 c1
                go_wp2_with fail
                refine Calls.mono (l2 _ HX1.out.1) ?_
                rintro e w3 ⟨rfl, x3, k3⟩
                replace k3 := HX1.out.2.trans k3
                clear l2
                go_wp2
                go_roundg D.rest.length
                case rel => exact ⟨D, rfl, HD.out.1, x3, HD.out.2, k3⟩
                case measure => omega
              · have q4 : (((fl : Nat) : Int) != 0) = false := by rw [hf]; rfl
                have q5 : decide (((n : Nat) : Int) > 0) = true := by simp; omega
                have q6 : 0 < n := by omega
                rw [show st.fltIf fl st.pl = st by unfold TS.fltIf; rw [if_pos hf]] at HD hlt2
                rw [if_neg hn, if_neg hn] at HD hlt2
                have l2 := fun X hX => dtext s K N st X hX tx.data.toList n (by show n ≤ st.rest.length; omega) (by omega) (by unfold pot at hroom ⊢; show st.toks.length + st.flts.length + st.text.length + 16 * st.rest.length + _ ≤ _; (try simp only [List.length_cons, List.length_nil]); omega)
                rw [hb] at l2
                rw [hb] at HD hlt2
                rw [show sv tx.data.toList = .string tx by show Value.string ⟨tx.data.toList.toArray⟩ = _; rw [Array.toArray_toList]] at l2
                obtain ⟨D, hDe⟩ : ∃ D, (st.cut n).addT tx.data.toList b = D := ⟨_, rfl⟩
                rw [hDe] at HD hlt2 l2
                clear hX kp fit hR hb hlen hE hroom hne hp1 hlt hcc hcc2 h60 hgm h0 h38 hSd hDe htl htx
                go_wp2_with fail
                refine Calls.mono (l0 _) ?_
                rintro e w1 ⟨rfl, k1⟩
                have HX1 : Hid (DX s K w1 N st ∧ Kept K w w1) := ⟨HX.out.1.kept k1, HX.out.2.trans (k1.mono fun k hk => HX.out.1.lt k hk)⟩
                have d1 : w1.cell? ⟨N, 1, none⟩ = some (.int .i64 (b : Int)) := by rw [← HB.out]; exact HX1.out.1.cells.2.1
                clear l0 k1 HX c0 c1
                go_wp2_with fail
                refine Calls.mono (l2 _ HX1.out.1) ?_
                rintro e w3 ⟨rfl, x3, k3⟩
                replace k3 := HX1.out.2.trans k3
                clear l2
                go_wp2
                go_roundg D.rest.length
                case rel => exact ⟨D, rfl, HD.out.1, x3, HD.out.2, k3⟩
                case measure => omega
            · by_cases hn : n = 0
              · have q4 : (((fl : Nat) : Int) != 0) = true := by simp; omega
                have q5 : decide (((n : Nat) : Int) > 0) = false := by simp; omega
                have q6 : ¬ 0 < n := by omega
                rw [show st.fltIf fl st.pl = (st.flt fl st.pl) by unfold TS.fltIf; rw [if_neg hf]] at HD hlt2
                rw [if_pos hn, if_pos hn] at HD hlt2
                have l1 := fun X hX => dfault s K N st X hX (by omega) fl b
                have l2 := fun X hX => dtext s K N (st.flt fl st.pl) X hX [38] 1 (by show 1 ≤ st.rest.length; omega) (by omega) (by unfold pot at hroom ⊢; show st.toks.length + (st.flts ++ [_]).length + st.text.length + 16 * st.rest.length + _ ≤ _; (try simp only [List.length_append, List.length_cons, List.length_nil]); omega)
                rw [show (st.flt fl st.pl).pl = b from hb] at l2
                rw [hb] at HD hlt2
                rw [hb] at l2
                try rw [hb] at l1
                obtain ⟨D, hDe⟩ : ∃ D, ((st.flt fl b).cut 1).addT [38] b = D := ⟨_, rfl⟩
                rw [hDe] at HD hlt2 l2
                clear hX kp fit hR hb hlen hE hroom hne hp1 hlt hcc hcc2 h60 hgm h0 h38 hSd hDe htl htx
                go_wp2_with fail
                refine Calls.mono (l0 _) ?_
                rintro e w1 ⟨rfl, k1⟩
                have HX1 : Hid (DX s K w1 N st ∧ Kept K w w1) := ⟨HX.out.1.kept k1, HX.out.2.trans (k1.mono fun k hk => HX.out.1.lt k hk)⟩
                have d1 : w1.cell? ⟨N, 1, none⟩ = some (.int .i64 (b : Int)) := by rw [← HB.out]; exact HX1.out.1.cells.2.1
                clear l0 k1 HX c0 c1
                go_wp2_with fail
                refine Calls.mono (l1 _ HX1.out.1) ?_
                rintro e w2 ⟨rfl, x2, k2⟩
                replace k2 := HX1.out.2.trans k2
                clear l1 HX1 d1
                go_wp2_with fail
                refine Calls.mono (l2 _ x2) ?_
                rintro e w3 ⟨rfl, x3, k3⟩
                replace k3 := k2.trans k3
                clear l2
                go_wp2
                go_roundg D.rest.length
                case rel => exact ⟨D, rfl, HD.out.1, x3, HD.out.2, k3⟩
                case measure => omega
              · have q4 : (((fl : Nat) : Int) != 0) = true := by simp; omega
                have q5 : decide (((n : Nat) : Int) > 0) = true := by simp; omega
                have q6 : 0 < n := by omega
                rw [show st.fltIf fl st.pl = (st.flt fl st.pl) by unfold TS.fltIf; rw [if_neg hf]] at HD hlt2
                rw [if_neg hn, if_neg hn] at HD hlt2
                have l1 := fun X hX => dfault s K N st X hX (by omega) fl b
                have l2 := fun X hX => dtext s K N (st.flt fl st.pl) X hX tx.data.toList n (by show n ≤ st.rest.length; omega) (by omega) (by unfold pot at hroom ⊢; show st.toks.length + (st.flts ++ [_]).length + st.text.length + 16 * st.rest.length + _ ≤ _; (try simp only [List.length_append, List.length_cons, List.length_nil]); omega)
                rw [show (st.flt fl st.pl).pl = b from hb] at l2
                rw [hb] at HD hlt2
                rw [hb] at l2
                try rw [hb] at l1
                rw [show sv tx.data.toList = .string tx by show Value.string ⟨tx.data.toList.toArray⟩ = _; rw [Array.toArray_toList]] at l2
                obtain ⟨D, hDe⟩ : ∃ D, ((st.flt fl b).cut n).addT tx.data.toList b = D := ⟨_, rfl⟩
                rw [hDe] at HD hlt2 l2
                clear hX kp fit hR hb hlen hE hroom hne hp1 hlt hcc hcc2 h60 hgm h0 h38 hSd hDe htl htx
                go_wp2_with fail
                refine Calls.mono (l0 _) ?_
                rintro e w1 ⟨rfl, k1⟩
                have HX1 : Hid (DX s K w1 N st ∧ Kept K w w1) := ⟨HX.out.1.kept k1, HX.out.2.trans (k1.mono fun k hk => HX.out.1.lt k hk)⟩
                have d1 : w1.cell? ⟨N, 1, none⟩ = some (.int .i64 (b : Int)) := by rw [← HB.out]; exact HX1.out.1.cells.2.1
                clear l0 k1 HX c0 c1
                go_wp2_with fail
                refine Calls.mono (l1 _ HX1.out.1) ?_
                rintro e w2 ⟨rfl, x2, k2⟩
                replace k2 := HX1.out.2.trans k2
                clear l1 HX1 d1
                go_wp2_with fail
                refine Calls.mono (l2 _ x2) ?_
                rintro e w3 ⟨rfl, x3, k3⟩
                replace k3 := k2.trans k3
                clear l2
                go_wp2
                go_roundg D.rest.length
                case rel => exact ⟨D, rfl, HD.out.1, x3, HD.out.2, k3⟩
                case measure => omega
          · have q3 : (((S[b]'n1).toNat : Int) == 38) = false := by rw [hcc2]; exact u8_ne (d := 38) h38
            have hpl : plain c := ⟨h60, h38, h0⟩
            have l1 := fun X hX => dtext s K N st X hX [c] 1 hp1 (by omega) (by simp only [List.length_cons, List.length_nil]; omega)
            have HD : Hid (((st.cut 1).addT [c] st.pl).run = R ∧ Fit (16 * s.length) ((st.cut 1).addT [c] st.pl)) := ⟨(run_plain hE hpl).symm.trans hR, (fit.plain1 hne).1⟩
            have hlt2 : ((st.cut 1).addT [c] st.pl).rest.length < gk := by rw [hgm]; exact (fit.plain1 hne).2
            obtain ⟨D, hDe⟩ : ∃ D, (st.cut 1).addT [c] st.pl = D := ⟨_, rfl⟩
            rw [hDe] at HD hlt2 l1
            have hone : (S.extract b (b + 1)).data.toList = [c] := by
              rw [extract_list, List.drop_take, Nat.add_sub_cancel_left, drop_cons n1, hcc2]
              rfl
            have hext : sv [c] = .string (S.extract b (b + 1)) := by
              show Value.string ⟨[c].toArray⟩ = _
              rw [← hone, Array.toArray_toList]
            obtain ⟨b1, hb1⟩ : ∃ x, b + 1 = x := ⟨_, rfl⟩
            rw [hb1] at hext
            rw [hext] at l1
            have hbi : (b : Int) + 1 = (b1 : Int) := by omega
            have hwr : IntKind.i64.wrap (b1 : Int) = (b1 : Int) := IntWalk.i64_in _ (by omega)
            have i3 : (b1 : Int) ≤ (S.size : Int) := by omega
            have i4 : (b : Int) ≤ (b1 : Int) := by omega
            have n3 : b1 ≤ S.size := by omega
            have n4 : b ≤ b1 := by omega
            clear hX kp fit hR hb hlen hE hroom hne hp1 hlt hcc hcc2 h60 hgm h0 h38 hpl hDe hext hone hb1
            go_wp2_with fail
            go_region_law (refine step_call rfl 21 #[.tmp 26, .tmp 37, .const (.int .i64 1)] #[52, 9, 3] rfl #[.pointer (some ⟨N, 0, none⟩), .string (S.extract b b1), .int .i64 1] (by first | (simp [Act.eval]; done) | (simp [Act.eval, Act.put]; done)) (enter21 _ _) (.tuple #[]) _ (l1 _ (by repeat (first | exact HX.out.1 | refine DX.drewN ?_ _ | refine DX.drew ?_))) ?_; rintro w20 ⟨x2, k2⟩)
            all_goals
              replace k2 := Kept.trans (show Kept K w _ by repeat (first | exact HX.out.2 | refine Kept.drewN ?_ _ | refine Kept.drew ?_)) k2
              clear l1 HX c0 c1
              go_wp2
              go_roundg D.rest.length
              case rel => exact ⟨D, rfl, HD.out.1, x2, HD.out.2, k2⟩
              case measure => omega
end Go.Proofs.Ytffllhohlfblnaa
