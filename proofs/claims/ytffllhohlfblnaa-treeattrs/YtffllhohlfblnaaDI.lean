/-
  What the document's reader takes as an attribute.
-/
import Derived.Test.YtffllhohlfblnaaDH
namespace Go.Proofs.Ytffllhohlfblnaa
open Go.RowKit Go.Sort

theorem nm_app (a b : List UInt8) : nmL (a ++ b) = nmL a ++ nmL b := by
  unfold nmL
  rw [show lowL (a ++ b) = lowL a ++ lowL b by simp [lowL], cleanL_append]
theorem ats_own0 {K : Nat → Prop} {w : World} {ao : Option Addr} {cap : Nat} {l : List Atr} (h : OwnZ K w 41 2 ao l.length cap (atrCells l)) : ∀ j (_ : j < l.length), ∃ g, ao = some ⟨g, 0, none⟩ ∧ blkOf ao g ∧ w.cell? ⟨g, j * 2, none⟩ = some (sv l[j].name) ∧ w.cell? ⟨g, j * 2 + 1, none⟩ = some (sv l[j].value) := by
  intro j hj
  obtain ⟨g1, g2⟩ := atrCells_get l j hj
  obtain ⟨g, e1, c1⟩ := h.cell g1
  obtain ⟨g', e2, c2⟩ := h.cell g2
  rw [e1] at e2
  injection e2 with e2
  injection e2 with e2
  subst e2
  exact ⟨g, e1, e1, c1, c2⟩
theorem ats_own {K : Nat → Prop} {w : World} {ao : Option Addr} {cap : Nat} {l : List Atr} (h : OwnZ K w 41 2 ao l.length cap (atrCells l)) : AtsIn (fun k => blkOf ao k) w ao l := by
  intro j hj
  obtain ⟨g, e1, b, c1, c2⟩ := ats_own0 h j hj
  exact ⟨g, 0, e1, b, by rw [Nat.zero_add]; exact c1, by rw [Nat.zero_add]; exact c2⟩
theorem has_snoc (l : List Atr) (nm : List UInt8) {k : Nat} (h : k < l.length) : hasN (l.take (k + 1)) nm = (hasN (l.take k) nm || l[k].name == nm) := by
  unfold hasN
  rw [List.take_succ_eq_append_getElem h, List.any_append]
  simp
/-- An attribute is appended to a row beside the reader. -/
theorem DX.appA {s : List UInt8} {K : Nat → Prop} {w : World} {p : Nat} {st : TS} {aa : Option Addr} {ac : Nat} {attrs : List Atr} (h : DX s (fun k => K k ∨ blkOf aa k) w p st) (ho : OwnZ K w 41 2 aa attrs.length ac (atrCells attrs)) (hn : attrs.length ≤ 100) (a : Atr) :
    ∃ aa' ac' w', (Builtin.append_ #[36, 36] 36 #[.slice aa attrs.length ac, .slice (some ⟨w.heap.size, 0, none⟩) 1 1]).run Try.prog (w.alloc (.cells #[sv a.name, sv a.value] 41)) = .ok (.slice aa' (attrs.length + 1) ac') w' ∧
      DX s (fun k => K k ∨ blkOf aa' k) w' p st ∧ OwnZ K w' 41 2 aa' (attrs.length + 1) ac' (atrCells (attrs ++ [a])) ∧ Kept K w w' := by
  obtain ⟨i, hi, hip⟩ := Option.map_eq_some_iff.1 infoA
  have hz : i.zero = some (.agg #[.string ⟨#[]⟩, .string ⟨#[]⟩]) := congrArg (·.1) hip
  have hsz : i.size = 2 := congrArg (·.2.1) hip
  have hby : i.bytes = 32 := congrArg (·.2.2) hip
  obtain ⟨W, hW⟩ : ∃ W, w.alloc (.cells #[sv a.name, sv a.value] 41) = W := ⟨_, rfl⟩
  rw [hW]
  have hsrc : Src Try.prog 2 36 (.slice (some ⟨w.heap.size, 0, none⟩) 1 1) 1 [sv a.name, sv a.value] W := by
    rw [← hW]
    exact src_newZ w w.heap.size [sv a.name, sv a.value] _ Try.underlying36 (by intro u hu; simp at hu; rcases hu with rfl | rfl <;> rfl) rfl rfl
  have kW : Kept (fun k => k < w.heap.size) w W := by rw [← hW]; exact (Kept.refl _ w).alloc (fun _ h => h) _
  obtain ⟨aa', ac', w', hr, ho', hk⟩ := run_appZ (P := Try.prog) (K := fun k => k < w.heap.size ∧ ¬ blkOf aa k) W 36 36 36 41 i _ Try.underlying36 hi hz 2 hsz rfl (by omega)
    (ho.to (w' := W) (fun g hg hh => hh.2 hg) (fun g hg => kW.block g (ho.out hg).2)) _ _ hsrc (fun g hg => Nat.lt_of_lt_of_le hg.1 kW.size) (by omega)
  have hk2 : Kept (fun k => k < w.heap.size ∧ ¬ blkOf aa k) w w' := (kW.mono fun _ h => h.1).trans hk
  obtain ⟨l1, l2, l3, A, ta, tc, tcs, fa, fc, ba, bc, z, hA, hb, hzz, hS, hrp⟩ := h
  have hpl := lt_block hb
  have hnew : ∀ g, blkOf aa' g → g < w.heap.size → blkOf aa g := fun g hg hl => by
    have := (ho'.out hg).1
    exact Classical.byContradiction fun hh => this ⟨hl, hh⟩
  have hKa : ∀ k, K k → k < w.heap.size ∧ ¬ blkOf aa k := fun k hk => ⟨l1 k (.inl hk), fun hh => (ho.out hh).1 hk⟩
  refine ⟨aa', ac', w', hr, ⟨?_, ?_, l3, A, ta, tc, tcs, fa, fc, ba, bc, z, ?_, ?_, hzz, ?_, ?_⟩, ?_, hk2.mono hKa⟩
  · rintro k (hh | hh)
    · exact Nat.lt_of_lt_of_le (hKa k hh).1 hk2.size
    · exact (ho'.out hh).2
  · rintro (hh | hh)
    · exact l2 (.inl hh)
    · exact l2 (.inr (hnew p hh hpl))
  · intro k hk'
    refine ⟨Nat.lt_of_lt_of_le (hA k hk').1 hk2.size, ?_, (hA k hk').2.2⟩
    rintro (hh | hh)
    · exact (hA k hk').2.1 (.inl hh)
    · exact (hA k hk').2.1 (.inr (hnew k hh (hA k hk').1))
  · rw [hk2.block p ⟨hpl, fun hh => l2 (.inr hh)⟩]
    exact hb
  · refine hS.to (fun g hg hgl => ?_) (fun g hg hgl => hk2.block g ⟨hgl, fun hh => hg (.inl (.inr hh))⟩)
    rintro ((hh | hh) | hh)
    · exact hg (.inl (.inl hh))
    · exact hg (.inl (.inr (hnew g hh hgl)))
    · exact hg (.inr hh)
  · exact hrp.kept (hk2.mono fun k hk' => ⟨(hA k hk').1, fun hh => (hA k hk').2.1 (.inr hh)⟩) fun _ h => h
  · have e : atrCells (attrs ++ [a]) = atrCells attrs ++ [sv a.name, sv a.value] := by rw [atrCells_append]; rfl
    rw [e]
    refine ho'.to (fun g hg hh => ?_) (fun _ _ => rfl)
    exact (ho.out (hnew g hg (hKa g hh).1)).1 hh

set_option maxRecDepth 20000 in
set_option maxHeartbeats 40000000 in
theorem dattr (s : List UInt8) (K : Nat → Prop) (p : Nat) (st : TS) (attrs : List Atr) (aa : Option Addr) (ac : Nat) (w : World) (h : DX s (fun k => K k ∨ blkOf aa k) w p st) (ho : OwnZ K w 41 2 aa attrs.length ac (atrCells attrs)) (hs : s.length < 100000) (hp : pot st ≤ 800000000) (hne : st.rest ≠ []) (hn : attrs.length ≤ 50) :
    Calls Try.prog 48 #[.pointer (some ⟨p, 0, none⟩), .slice aa attrs.length ac] w fun e w' => ∃ aa' ac', e = .returned (.tuple #[.slice aa' (st.attr attrs).attrs.length ac', .bool (st.first.cutTo (hdIn atE)).value.ok]) ∧ DX s (fun k => K k ∨ blkOf aa' k) w' p (st.attr attrs).st ∧ OwnZ K w' 41 2 aa' (st.attr attrs).attrs.length ac' (atrCells (st.attr attrs).attrs) ∧ Kept K w w' := by
  obtain ⟨K', hK'⟩ : ∃ K' : Nat → Prop, (fun k => K k ∨ blkOf aa k) = K' := ⟨_, rfl⟩
  rw [hK'] at h
  have HKK : Hid (∀ k, K k → K' k) := by rw [← hK']; exact fun k h => .inl h
  have HKA : Hid (∀ X, Kept K' w X → OwnZ K X 41 2 aa attrs.length ac (atrCells attrs)) := fun X hX => ho.to (fun g hg => (ho.out hg).1) (fun g hg => hX.block g (by rw [← hK']; exact .inr hg))
  have HKE : Hid ((fun k => K k ∨ blkOf aa k) = K') := hK'
  clear hK' ho
  obtain ⟨c, r, hr⟩ : ∃ c r, st.rest = c :: r := by cases hh : st.rest with | nil => exact absurd hh hne | cons c r => exact ⟨c, r, rfl⟩
  obtain ⟨S, hS⟩ : ∃ S : ByteArray, (⟨s.toArray⟩ : ByteArray) = S := ⟨_, rfl⟩
  have sS : S.size = s.length := by rw [← hS]; exact sv_size _
  have hzS : S.size < 100000 := by omega
  obtain ⟨hlt, hc⟩ := h.byte hr hS
  obtain ⟨b, hb⟩ : ∃ b, st.pl = b := ⟨_, rfl⟩
  have hlen := h.len
  obtain ⟨c0, c1, fz⟩ := h.cells
  replace c0 : w.cell? ⟨p, 0, none⟩ = some (.string S) := by rw [← hS]; exact c0
  rw [hb] at c1
  have f1 := fz 1
  clear fz
  have hltb : b < S.size := by rw [← hb]; exact hlt
  have hcb : S[b]'hltb = c := by
    subst hb
    exact hc
  replace hlt := hltb
  replace hcb : S[b]'hlt = c := hcb
  clear hc hltb
  have hex : S.extract b (b + 1) = ⟨#[c]⟩ := by
    rw [← hS, sv_extract, List.drop_take, Nat.add_sub_cancel_left, ← hb, ← h.2.2.1.2, hr]
    rfl
  obtain ⟨F, hF⟩ : ∃ F, st.first = F := ⟨_, rfl⟩
  have hF1 : F.pl = b + 1 := by rw [← hF, ← hb]; unfold TS.first; split <;> rfl
  have hpF : pot F ≤ 800000000 := by
    rw [← hF]
    unfold TS.first
    have hc1 : (st.rest.drop 1).length + 1 = st.rest.length := by rw [hr]; rfl
    unfold pot at hp
    split
    · unfold pot
      show st.toks.length + (st.flts ++ [_]).length + st.text.length + 16 * (st.rest.drop 1).length ≤ _
      rw [List.length_append]
      simp only [List.length_cons, List.length_nil]
      omega
    · unfold pot
      show st.toks.length + st.flts.length + st.text.length + 16 * (st.rest.drop 1).length ≤ _
      omega
  obtain ⟨F2, hF2⟩ : ∃ x, F.cutTo (hdIn atE) = x := ⟨_, rfl⟩
  change F.cutTo (hdIn (blk ++ [47, 62, 61])) = F2 at hF2
  obtain ⟨F3, hF3⟩ : ∃ x, F2.cutTo (hdOut blk) = x := ⟨_, rfl⟩
  have hp2 : pot F2 ≤ 800000000 := by rw [← hF2]; unfold pot at hpF ⊢; show F.toks.length + F.flts.length + F.text.length + 16 * (F.rest.drop _).length ≤ _; rw [List.length_drop]; omega
  have hp3 : pot F3 ≤ 800000000 := by rw [← hF3]; unfold pot at hp2 ⊢; show F2.toks.length + F2.flts.length + F2.text.length + 16 * (F2.rest.drop _).length ≤ _; rw [List.length_drop]; omega
  obtain ⟨fn, hfn⟩ : ∃ x, nmL (F.front (hdIn (blk ++ [47, 62, 61]))) = x := ⟨_, rfl⟩
  obtain ⟨NM, hNM⟩ : ∃ x, st.aname = x := ⟨_, rfl⟩
  have hnm : cleanL (lowL [c]) ++ fn = NM := by
    rw [← hNM, ← hfn]
    unfold TS.aname
    rw [hF, nm_app, hr]
    rfl
  have hfl : fn.length < 300000 := by
    rw [← hfn]
    unfold nmL
    have h1 := cleanL_length (lowL (F.front (hdIn (blk ++ [47, 62, 61]))))
    rw [lowL_length] at h1
    have h2 : (F.front (hdIn (blk ++ [47, 62, 61]))).length ≤ F.rest.length := by unfold TS.front; rw [List.length_take]; exact Nat.min_le_right _ _
    have h3 : F.rest.length ≤ st.rest.length := by rw [← hF]; exact (mv_first st hne).le
    omega
  -- what is told
  obtain ⟨G, hG⟩ : ∃ G, F2.value = G := ⟨_, rfl⟩
  obtain ⟨R, hR⟩ : ∃ R, st.attr attrs = R := ⟨_, rfl⟩
  have HRR : Hid (R = if G.ok = true then (if 50 ≤ attrs.length ∨ hasN attrs NM = true then ⟨G.st.flt 5 b, attrs⟩ else ⟨G.st, attrs ++ [⟨NM, allL true (cleanL G.v)⟩]⟩) else ⟨G.st, attrs⟩) := by
    show R = _
    rw [← hR]
    unfold TS.attr
    rw [hF, show F.cutTo (hdIn [9, 10, 12, 32, 47, 62, 61]) = F2 from hF2, hG, hNM, hb]
  have hgoal : (st.first.cutTo (hdIn atE)).value.ok = G.ok := by rw [hF, show F.cutTo (hdIn atE) = F2 from hF2, hG]
  rw [hR, hgoal]
  have HG : Hid (G = if pre [61] F3.rest = true then ((F3.cut 1).cutTo (hdOut blk)).val2 else ⟨F3, [], true⟩) := by
    show G = _
    rw [← hG]
    unfold TS.value
    rw [hF3]
  have l0 := fun X hX => dfault s K' p st X hX (by omega) 5 b
  have l1 := fun X hX => drlower s K' p F X hX [c] (by simp)
  have l2 := fun X hX => drclean s K' p F X hX (lowL [c]) (by rw [lowL_length]; simp)
  have l3 := fun X hX => dname s K' p F X hX hs [47, 62, 61] (by decide)
  rw [hF2, hfn] at l3
  have l4 := fun X hX => dblanks s K' p F2 X hX (by omega)
  rw [hF3] at l4
  have l5 := fun X hX => dlooks s K' p F3 X hX (by omega) [61] (by decide)
  rw [nl [61] (by decide)] at l5
  have l6 := fun X hX => dvalue s K' p (F3.cut 1) X hX hs (by unfold pot at hp3 ⊢; show F3.toks.length + F3.flts.length + F3.text.length + 16 * (F3.rest.drop 1).length ≤ _; rw [List.length_drop]; omega)
  have hpG : pot G.st ≤ 900000000 := by
    have := (Fit.value (b := 800000000) (st := F2) ⟨by
      have h1 : F2.pl + F2.rest.length = F.pl + F.rest.length := by rw [← hF2]; exact (mv_cutTo F _).sum
      have h2 : F.pl + F.rest.length = st.pl + st.rest.length := by rw [← hF]; exact (mv_first st hne).sum
      omega, hp2⟩).1.room
    rw [hG] at this
    omega
  have l7 := fun X hX => dfault s K' p G.st X hX (by omega) 5 b
  have y1 : (⟨(cleanL (lowL [c])).toArray⟩ : ByteArray) ++ ⟨fn.toArray⟩ = ⟨NM.toArray⟩ := by rw [← hnm]; exact mk_app _ ⟨fn.toArray⟩
  have hcl : (cleanL (lowL [c])).length ≤ 3 := by have := cleanL_length (lowL [c]); rw [lowL_length] at this; simpa using this
  have HC : Hid (∀ X st1, DX s K' X p st1 → st1.pl = b → st1.rest = c :: r → X.cell? ⟨p, 1, none⟩ = some (.int .i64 (b : Int)) ∧ X.frozen? ⟨p, 1, none⟩ = false ∧ DX s K' (X.setCell ⟨p, 1, none⟩ (.int .i64 ((b : Int) + 1))) p (st1.cut 1) ∧ Kept K' X (X.setCell ⟨p, 1, none⟩ (.int .i64 ((b : Int) + 1)))) := by
    intro X st1 hX h1 h2
    obtain ⟨q1, q2⟩ := hX.cutAt (m := 1) (by rw [h2]; simp) (n := (b : Int) + 1) (by rw [h1]; omega)
    exact ⟨by rw [← h1]; exact hX.cells.2.1, hX.cells.2.2 1, q1, q2⟩
  have HS0 : Hid (∀ X, DX s K' X p F → X.cell? ⟨p, 0, none⟩ = some (.string S)) := fun X hX => by rw [← hS]; exact hX.cells.1
  have HH : Hid (DX s K' w p st) := h
  have HF3 : Hid (∀ X, DX s K' X p F3 → 1 ≤ F3.rest.length → ∃ e : Nat, X.cell? ⟨p, 1, none⟩ = some (.int .i64 (e : Int)) ∧ e < 100000 ∧ X.frozen? ⟨p, 1, none⟩ = false ∧ DX s K' (X.setCell ⟨p, 1, none⟩ (.int .i64 ((e : Int) + 1))) p (F3.cut 1) ∧ Kept K' X (X.setCell ⟨p, 1, none⟩ (.int .i64 ((e : Int) + 1)))) := by
    intro X hX hl
    have := hX.len
    obtain ⟨q1, q2⟩ := hX.cutAt (m := 1) hl (n := (F3.pl : Int) + 1) (by omega)
    exact ⟨F3.pl, hX.cells.2.1, by omega, hX.cells.2.2 1, q1, q2⟩
  have HFI : Hid (F = if c = 61 then (st.flt 5 b).cut 1 else st.cut 1) := by
    show F = _
    rw [← hF]
    unfold TS.first
    rw [hr, hb]
    by_cases h61 : c = 61
    · rw [if_pos h61, if_pos (by rw [h61]; rfl)]
      rfl
    · rw [if_neg h61, if_neg (by intro e; injection e with e _; exact h61 e)]
  have HSTR : Hid (st.pl = b ∧ st.rest = c :: r) := ⟨hb, hr⟩
  obtain ⟨n, hne2⟩ : ∃ n, attrs.length = n := ⟨_, rfl⟩
  have HN : Hid (attrs.length = n) := hne2
  rw [hne2] at hn HKA ⊢
  rw [hne2] at HRR
  clear h hne hr hS sS hb hlen hF hF1 hpF hF2 hF3 hp2 hp3 hfn hNM hnm hG hR hgoal hpG hp hne2
  by_cases h61 : c = 61
  · have e1 : (((S[b]'hlt).toNat : Int) == 61) = true := by rw [hcb, h61]; rfl
    have HF61 : Hid (F = (st.flt 5 b).cut 1) := by show F = _; rw [HFI.out, if_pos h61]
    replace l0 := l0 w HH.out
    clear HFI h61 hcb
    go_enter Try.func48, Try.ntmps48
    go_wp2_with fail
    refine l0.mono ?_
    rintro e w1 ⟨rfl, x1, k1⟩
    obtain ⟨d1, g1, xW, kW⟩ := HC.out w1 (st.flt 5 b) x1 HSTR.out.1 HSTR.out.2
    rw [← HF61.out] at xW
    obtain ⟨W, hW⟩ : ∃ W, w1.setCell ⟨p, 1, none⟩ (.int .i64 ((b : Int) + 1)) = W := ⟨_, rfl⟩
    have HW : Hid (w1.setCell ⟨p, 1, none⟩ (.int .i64 ((b : Int) + 1)) = W) := hW
    rw [hW] at xW kW
    replace kW := k1.trans kW
    clear l0 k1 x1 hW HC HSTR HF61 HH c0 c1 f1 e1
    replace l1 := l1 W xW
    go_upto_region 5 with fail
    rw [HW.out]
    clear HW d1 g1
    have d0 := HS0.out W xW
    clear HS0
    go_wp2_with fail
    refine l1.mono ?_
    rintro e w2 ⟨rfl, x2, k2⟩
    replace l2 := l2 w2 x2
    replace k2 := kW.trans k2
    clear l1 kW xW x2 d0
    go_wp2_with fail
    refine l2.mono ?_
    rintro e w3 ⟨rfl, x3, k3⟩
    replace l3 := l3 w3 x3
    replace k3 := k2.trans k3
    clear l2 k2 x3
    go_wp2_with fail
    refine l3.mono ?_
    rintro e w4 ⟨rfl, x4, k4⟩
    replace l4 := l4 w4 x4
    replace k4 := k3.trans k4
    clear l3 k3 x4
    go_wp2_with fail
    refine l4.mono ?_
    rintro e w5 ⟨rfl, x5, k5⟩
    replace l5 := l5 w5 x5
    replace k5 := k4.trans k5
    clear l4 k4 x5
    by_cases h61 : pre [61] F3.rest = true
    · rw [h61] at l5
      have hl1 : 1 ≤ F3.rest.length := pre_length h61
      have HG2 : Hid (G = ((F3.cut 1).cutTo (hdOut blk)).val2) := by show G = _; rw [HG.out, if_pos h61]
      rw [← HG2.out] at l6
      clear HG HG2 h61
      go_wp2_with fail
      refine l5.mono ?_
      rintro e w6 ⟨rfl, x6, k6⟩
      replace k6 := k5.trans k6
      obtain ⟨e6, d6, z6, g6, x7, k7⟩ := HF3.out w6 x6 hl1
      obtain ⟨W7, hW7⟩ : ∃ W, w6.setCell ⟨p, 1, none⟩ (.int .i64 ((e6 : Int) + 1)) = W := ⟨_, rfl⟩
      have HW7 : Hid (w6.setCell ⟨p, 1, none⟩ (.int .i64 ((e6 : Int) + 1)) = W7) := hW7
      rw [hW7] at x7 k7
      replace k7 := k6.trans k7
      replace l6 := l6 W7 x7
      clear l5 k5 k6 x6 x7 hW7 HF3 hl1
      go_upto_region 11 with fail
      rw [HW7.out]
      clear HW7 d6 g6 z6
      go_wp2_with fail
      refine l6.mono ?_
      rintro e wX ⟨rfl, xX, kX⟩
      replace kX := k7.trans kX
      clear l6 k7
      obtain ⟨ok, hok⟩ : ∃ v, G.ok = v := ⟨_, rfl⟩
      rw [hok]
      cases ok with
      | false =>
        have HR2 : Hid (R = ⟨G.st, attrs⟩) := by show R = _; rw [HRR.out, hok, if_neg (by decide)]
        have oo := HKA.out wX kX
        have kk := kX.mono HKK.out
        clear HRR HKA l7
        go_wp2
        go_ret2
        refine ⟨aa, ac, ?_, ?_, ?_, kk⟩
        · rw [HR2.out, hok]
          show _ = Ending.returned (.tuple #[.slice aa attrs.length ac, _])
          rw [HN.out]
          rfl
        · rw [HR2.out, HKE.out]
          exact xX
        · rw [HR2.out]
          show OwnZ _ _ _ _ _ attrs.length _ _
          rw [HN.out]
          exact oo
      | true =>
        have HOK : Hid (G.ok = true) := hok
        have HXX : Hid (DX s K' wX p G.st ∧ Kept K' w wX) := ⟨xX, kX⟩
        have HKN : Hid (OwnZ K wX 41 2 aa attrs.length ac (atrCells attrs)) := by rw [HN.out]; exact HKA.out wX kX
        obtain ⟨VL, hVL⟩ : ∃ x, allL true (cleanL G.v) = x := ⟨_, rfl⟩
        have HVL : Hid (allL true (cleanL G.v) = VL) := hVL
        rw [hVL]
        clear xX kX hok hVL
        have ats := ats_own0 (HKN.out)
        have HAT : Hid (∀ j, j < n → ∃ g nm, aa = some ⟨g, 0, none⟩ ∧ wX.cell? ⟨g, j * 2, none⟩ = some (sv nm) ∧ hasN (attrs.take (j + 1)) NM = (hasN (attrs.take j) NM || nm == NM)) := by
          intro j hj
          have hj' : j < attrs.length := by rw [HN.out]; exact hj
          obtain ⟨g, e1, -, c1, -⟩ := ats j hj'
          exact ⟨g, attrs[j].name, e1, c1, has_snoc attrs NM hj'⟩
        have HTK : Hid (hasN (attrs.take n) NM = hasN attrs NM) := by show hasN _ _ = _; rw [← HN.out, List.take_length]
        obtain ⟨q50, hq50⟩ : ∃ q, decide (50 ≤ n) = q := ⟨_, rfl⟩
        have hq50' : decide ((n : Int) ≥ 50) = q50 := by
          rw [← hq50]
          by_cases h : 50 ≤ n
          · rw [decide_eq_true h, decide_eq_true (by omega)]
          · rw [decide_eq_false h, decide_eq_false (by omega)]
        have HQ : Hid (decide (50 ≤ n) = q50) := hq50
        clear ats hq50
        go_wp2_with fail
        go_loopg [10, 11] n (fun gm tv iv wr => ∃ k : Nat, gm = n - k ∧ k ≤ n ∧ iv = .int .i64 k ∧ tv = .bool (q50 || hasN (attrs.take k) NM) ∧ wr = wX)
        case atStart => exact ⟨0, rfl, Nat.zero_le _, rfl, by rw [show hasN (attrs.take 0) NM = false from rfl, Bool.or_false], rfl⟩
        case round =>
          obtain ⟨k, hgk, hk, rfl, rfl, hw⟩ := hrel
          replace hw := hw.symm
          subst hw
          by_cases hltk : k < n
          · obtain ⟨g, nm, rfl, d0, hsn⟩ := HAT.out k hltk
            have HSN : Hid (hasN (attrs.take (k + 1)) NM = (hasN (attrs.take k) NM || nm == NM)) := hsn
            obtain ⟨hv, hhv⟩ : ∃ v, (q50 || hasN (attrs.take k) NM) = v := ⟨_, rfl⟩
            have HHV : Hid ((q50 || hasN (attrs.take k) NM) = hv) := hhv
            rw [hhv]
            clear hsn hhv HAT HTK
            cases hv with
            | true =>
              have HT : Hid ((q50 || hasN (attrs.take (k + 1)) NM) = true) := by show _ = true; rw [HSN.out, ← Bool.or_assoc, HHV.out]; rfl
              clear HSN HHV d0
              go_wp2
              go_roundg (n - (k + 1))
              case rel => exact ⟨k + 1, rfl, by omega, by go_num, by rw [HT.out], rfl⟩
              case measure => omega
            | false =>
              have HT : Hid ((q50 || hasN (attrs.take (k + 1)) NM) = (nm == NM)) := by show _ = _; rw [HSN.out, ← Bool.or_assoc, HHV.out]; rfl
              obtain ⟨U, hU⟩ : ∃ S : ByteArray, (⟨nm.toArray⟩ : ByteArray) = S := ⟨_, rfl⟩
              obtain ⟨U2, hU2⟩ : ∃ S : ByteArray, (⟨NM.toArray⟩ : ByteArray) = S := ⟨_, rfl⟩
              have HEQ : Hid ((U.toList == U2.toList) = (nm == NM)) := by show _ = _; rw [← hU, ← hU2, ByteArray.toList_eq, ByteArray.toList_eq]
              replace d0 : wX.cell? ⟨g, k * 2, none⟩ = some (Value.string U) := by rw [← hU]; exact d0
              have hU2' : Hid ((⟨NM.toArray⟩ : ByteArray) = U2) := hU2
              clear HSN HHV hU hU2
              go_wp2
              go_roundg (n - (k + 1))
              case rel =>
                refine ⟨k + 1, rfl, by omega, by go_num, ?_, rfl⟩
                rw [HT.out, ← HEQ.out, ← hU2'.out, ByteArray.toList_eq ⟨NM.toArray⟩]
              case measure => omega
          · have hkk : k = n := by omega
            subst hkk
            rw [HTK.out]
            obtain ⟨hv, hhv⟩ : ∃ v, (q50 || hasN attrs NM) = v := ⟨_, rfl⟩
            rw [hhv]
            cases hv with
            | true =>
              have HR2 : Hid (R = ⟨G.st.flt 5 b, attrs⟩) := by
                show R = _
                rw [HRR.out, HOK.out, if_pos rfl, if_pos]
                rcases Bool.or_eq_true_iff.1 hhv with h | h
                · rw [← HQ.out] at h
                  exact .inl (of_decide_eq_true h)
                · exact .inr h
              have HKX : Hid (∀ Y, Kept K' wX Y → Kept K w Y ∧ OwnZ K Y 41 2 aa k ac (atrCells attrs)) := fun Y hY => ⟨(HXX.out.2.trans hY).mono HKK.out, HKA.out Y (HXX.out.2.trans hY)⟩
              replace l7 := l7 wX HXX.out.1
              clear HAT HTK HQ hhv HRR HXX HKN HKA
              go_wp2_with fail
              refine l7.mono ?_
              rintro e w9 ⟨rfl, x9, k9⟩
              clear l7
              obtain ⟨kk, oo⟩ := HKX.out w9 k9
              clear HKX k9
              go_wp2
              go_ret2
              refine ⟨aa, ac, ?_, ?_, ?_, kk⟩
              · rw [HR2.out, HOK.out]
                show _ = Ending.returned (.tuple #[.slice aa attrs.length ac, _])
                rw [HN.out]
                rfl
              · rw [HR2.out, HKE.out]
                exact x9
              · rw [HR2.out]
                show OwnZ _ _ _ _ _ attrs.length _ _
                rw [HN.out]
                exact oo
            | false =>
              have HR2 : Hid (R = ⟨G.st, attrs ++ [⟨NM, allL true (cleanL G.v)⟩]⟩) := by
                show R = _
                rw [HRR.out, HOK.out, if_pos rfl, if_neg]
                rintro (h | h)
                · rw [← HQ.out, decide_eq_true h] at hhv
                  cases hhv
                · rw [h, Bool.or_true] at hhv
                  cases hhv
              have xx := HXX.out.1
              rw [← HKE.out] at xx
              obtain ⟨aa', ac', w', hrun, xA, oA, kA⟩ := xx.appA (attrs := attrs) (ac := ac) (by rw [HN.out]; exact HKA.out wX HXX.out.2) (by rw [HN.out]; omega) ⟨NM, VL⟩
              rw [HN.out] at hrun oA
              have HFIN : Hid (DX s (fun k => K k ∨ blkOf aa' k) w' p G.st ∧ OwnZ K w' 41 2 aa' (k + 1) ac' (atrCells (attrs ++ [⟨NM, VL⟩])) ∧ Kept K w w') := ⟨xA, oA, (HXX.out.2.mono HKK.out).trans kA⟩
              dsimp only at hrun
              clear HAT HTK HQ hhv HRR HXX HKN HKA xx xA oA kA l7
              go_wp2_with (at_builtin; refine wpList_appR (w' := w') rfl (.tmp 89) (.tmp 93) 36 36 rfl _ _ (.slice aa' (k + 1) ac') rfl rfl hrun ?_)
              go_wp2
              go_ret2
              refine ⟨aa', ac', ?_, ?_, ?_, HFIN.out.2.2⟩
              · rw [HR2.out, HOK.out]
                show _ = Ending.returned (.tuple #[.slice aa' (attrs ++ [_]).length ac', _])
                rw [List.length_append, HN.out]
                rfl
              · rw [HR2.out]
                exact HFIN.out.1
              · rw [HR2.out]
                show OwnZ _ _ _ _ _ (attrs ++ [_]).length _ _
                rw [List.length_append, HN.out, HVL.out]
                exact HFIN.out.2.1
    · replace h61 : pre [61] F3.rest = false := by simpa using h61
      rw [h61] at l5
      have HG2 : Hid (G = ⟨F3, [], true⟩) := by show G = _; rw [HG.out, h61, if_neg (by decide)]
      clear HG h61 l6 HF3
      go_wp2_with fail
      refine l5.mono ?_
      rintro e wX ⟨rfl, xX, kX⟩
      replace kX := k5.trans kX
      clear l5 k5
      have HOK : Hid (G.ok = true) := by rw [HG2.out]; rfl
      have HXX : Hid (DX s K' wX p G.st ∧ Kept K' w wX) := ⟨by rw [HG2.out]; exact xX, kX⟩
      have HKN : Hid (OwnZ K wX 41 2 aa attrs.length ac (atrCells attrs)) := by rw [HN.out]; exact HKA.out wX kX
      obtain ⟨VL, hVL⟩ : ∃ x : List UInt8, x = [] := ⟨_, rfl⟩
      have HVL : Hid (allL true (cleanL G.v) = VL) := by show _ = _; rw [HG2.out, hVL]; rfl
      have hVE : (⟨#[]⟩ : ByteArray) = ⟨VL.toArray⟩ := by rw [hVL]
      clear xX kX hVL HG2
      have ats := ats_own0 (HKN.out)
      have HAT : Hid (∀ j, j < n → ∃ g nm, aa = some ⟨g, 0, none⟩ ∧ wX.cell? ⟨g, j * 2, none⟩ = some (sv nm) ∧ hasN (attrs.take (j + 1)) NM = (hasN (attrs.take j) NM || nm == NM)) := by
        intro j hj
        have hj' : j < attrs.length := by rw [HN.out]; exact hj
        obtain ⟨g, e1, -, c1, -⟩ := ats j hj'
        exact ⟨g, attrs[j].name, e1, c1, has_snoc attrs NM hj'⟩
      have HTK : Hid (hasN (attrs.take n) NM = hasN attrs NM) := by show hasN _ _ = _; rw [← HN.out, List.take_length]
      obtain ⟨q50, hq50⟩ : ∃ q, decide (50 ≤ n) = q := ⟨_, rfl⟩
      have hq50' : decide ((n : Int) ≥ 50) = q50 := by
        rw [← hq50]
        by_cases h : 50 ≤ n
        · rw [decide_eq_true h, decide_eq_true (by omega)]
        · rw [decide_eq_false h, decide_eq_false (by omega)]
      have HQ : Hid (decide (50 ≤ n) = q50) := hq50
      clear ats hq50
      go_wp2_with fail
      go_loopg [10, 11] n (fun gm tv iv wr => ∃ k : Nat, gm = n - k ∧ k ≤ n ∧ iv = .int .i64 k ∧ tv = .bool (q50 || hasN (attrs.take k) NM) ∧ wr = wX)
      case atStart => exact ⟨0, rfl, Nat.zero_le _, rfl, by rw [show hasN (attrs.take 0) NM = false from rfl, Bool.or_false], rfl⟩
      case round =>
        obtain ⟨k, hgk, hk, rfl, rfl, hw⟩ := hrel
        replace hw := hw.symm
        subst hw
        by_cases hltk : k < n
        · obtain ⟨g, nm, rfl, d0, hsn⟩ := HAT.out k hltk
          have HSN : Hid (hasN (attrs.take (k + 1)) NM = (hasN (attrs.take k) NM || nm == NM)) := hsn
          obtain ⟨hv, hhv⟩ : ∃ v, (q50 || hasN (attrs.take k) NM) = v := ⟨_, rfl⟩
          have HHV : Hid ((q50 || hasN (attrs.take k) NM) = hv) := hhv
          rw [hhv]
          clear hsn hhv HAT HTK
          cases hv with
          | true =>
            have HT : Hid ((q50 || hasN (attrs.take (k + 1)) NM) = true) := by show _ = true; rw [HSN.out, ← Bool.or_assoc, HHV.out]; rfl
            clear HSN HHV d0
            go_wp2
            go_roundg (n - (k + 1))
            case rel => exact ⟨k + 1, rfl, by omega, by go_num, by rw [HT.out], rfl⟩
            case measure => omega
          | false =>
            have HT : Hid ((q50 || hasN (attrs.take (k + 1)) NM) = (nm == NM)) := by show _ = _; rw [HSN.out, ← Bool.or_assoc, HHV.out]; rfl
            obtain ⟨U, hU⟩ : ∃ S : ByteArray, (⟨nm.toArray⟩ : ByteArray) = S := ⟨_, rfl⟩
            obtain ⟨U2, hU2⟩ : ∃ S : ByteArray, (⟨NM.toArray⟩ : ByteArray) = S := ⟨_, rfl⟩
            have HEQ : Hid ((U.toList == U2.toList) = (nm == NM)) := by show _ = _; rw [← hU, ← hU2, ByteArray.toList_eq, ByteArray.toList_eq]
            replace d0 : wX.cell? ⟨g, k * 2, none⟩ = some (Value.string U) := by rw [← hU]; exact d0
            have hU2' : Hid ((⟨NM.toArray⟩ : ByteArray) = U2) := hU2
            clear HSN HHV hU hU2
            go_wp2
            go_roundg (n - (k + 1))
            case rel =>
              refine ⟨k + 1, rfl, by omega, by go_num, ?_, rfl⟩
              rw [HT.out, ← HEQ.out, ← hU2'.out, ByteArray.toList_eq ⟨NM.toArray⟩]
            case measure => omega
        · have hkk : k = n := by omega
          subst hkk
          rw [HTK.out]
          obtain ⟨hv, hhv⟩ : ∃ v, (q50 || hasN attrs NM) = v := ⟨_, rfl⟩
          rw [hhv]
          cases hv with
          | true =>
            have HR2 : Hid (R = ⟨G.st.flt 5 b, attrs⟩) := by
              show R = _
              rw [HRR.out, HOK.out, if_pos rfl, if_pos]
              rcases Bool.or_eq_true_iff.1 hhv with h | h
              · rw [← HQ.out] at h
                exact .inl (of_decide_eq_true h)
              · exact .inr h
            have HKX : Hid (∀ Y, Kept K' wX Y → Kept K w Y ∧ OwnZ K Y 41 2 aa k ac (atrCells attrs)) := fun Y hY => ⟨(HXX.out.2.trans hY).mono HKK.out, HKA.out Y (HXX.out.2.trans hY)⟩
            replace l7 := l7 wX HXX.out.1
            clear HAT HTK HQ hhv HRR HXX HKN HKA
            go_wp2_with fail
            refine l7.mono ?_
            rintro e w9 ⟨rfl, x9, k9⟩
            clear l7
            obtain ⟨kk, oo⟩ := HKX.out w9 k9
            clear HKX k9
            go_wp2
            go_ret2
            refine ⟨aa, ac, ?_, ?_, ?_, kk⟩
            · rw [HR2.out, HOK.out]
              show _ = Ending.returned (.tuple #[.slice aa attrs.length ac, _])
              rw [HN.out]
              rfl
            · rw [HR2.out, HKE.out]
              exact x9
            · rw [HR2.out]
              show OwnZ _ _ _ _ _ attrs.length _ _
              rw [HN.out]
              exact oo
          | false =>
            have HR2 : Hid (R = ⟨G.st, attrs ++ [⟨NM, allL true (cleanL G.v)⟩]⟩) := by
              show R = _
              rw [HRR.out, HOK.out, if_pos rfl, if_neg]
              rintro (h | h)
              · rw [← HQ.out, decide_eq_true h] at hhv
                cases hhv
              · rw [h, Bool.or_true] at hhv
                cases hhv
            have xx := HXX.out.1
            rw [← HKE.out] at xx
            obtain ⟨aa', ac', w', hrun, xA, oA, kA⟩ := xx.appA (attrs := attrs) (ac := ac) (by rw [HN.out]; exact HKA.out wX HXX.out.2) (by rw [HN.out]; omega) ⟨NM, VL⟩
            rw [HN.out] at hrun oA
            have HFIN : Hid (DX s (fun k => K k ∨ blkOf aa' k) w' p G.st ∧ OwnZ K w' 41 2 aa' (k + 1) ac' (atrCells (attrs ++ [⟨NM, VL⟩])) ∧ Kept K w w') := ⟨xA, oA, (HXX.out.2.mono HKK.out).trans kA⟩
            dsimp only at hrun
            clear HAT HTK HQ hhv HRR HXX HKN HKA xx xA oA kA l7
            go_wp2_with (at_builtin; refine wpList_appR (w' := w') rfl (.tmp 89) (.tmp 93) 36 36 rfl _ _ (.slice aa' (k + 1) ac') rfl rfl hrun ?_)
            go_wp2
            go_ret2
            refine ⟨aa', ac', ?_, ?_, ?_, HFIN.out.2.2⟩
            · rw [HR2.out, HOK.out]
              show _ = Ending.returned (.tuple #[.slice aa' (attrs ++ [_]).length ac', _])
              rw [List.length_append, HN.out]
              rfl
            · rw [HR2.out]
              exact HFIN.out.1
            · rw [HR2.out]
              show OwnZ _ _ _ _ _ (attrs ++ [_]).length _ _
              rw [List.length_append, HN.out, HVL.out]
              exact HFIN.out.2.1
  · have e1 : (((S[b]'hlt).toNat : Int) == 61) = false := by rw [hcb]; exact u8_ne (d := 61) h61
    have HF61 : Hid (F = st.cut 1) := by show F = _; rw [HFI.out, if_neg h61]
    obtain ⟨d1, g1, xW, kW⟩ := HC.out w st HH.out HSTR.out.1 HSTR.out.2
    rw [← HF61.out] at xW
    obtain ⟨W, hW⟩ : ∃ W, w.setCell ⟨p, 1, none⟩ (.int .i64 ((b : Int) + 1)) = W := ⟨_, rfl⟩
    have HW : Hid (w.setCell ⟨p, 1, none⟩ (.int .i64 ((b : Int) + 1)) = W) := hW
    rw [hW] at xW kW
    clear l0 hW HC HSTR HF61 HH HFI h61 hcb d1
    go_enter Try.func48, Try.ntmps48
    replace l1 := l1 W xW
    go_upto_region 5 with fail
    rw [HW.out]
    clear HW g1 c0 c1 f1 e1
    have d0 := HS0.out W xW
    clear HS0
    go_wp2_with fail
    refine l1.mono ?_
    rintro e w2 ⟨rfl, x2, k2⟩
    replace l2 := l2 w2 x2
    replace k2 := kW.trans k2
    clear l1 kW xW x2 d0
    go_wp2_with fail
    refine l2.mono ?_
    rintro e w3 ⟨rfl, x3, k3⟩
    replace l3 := l3 w3 x3
    replace k3 := k2.trans k3
    clear l2 k2 x3
    go_wp2_with fail
    refine l3.mono ?_
    rintro e w4 ⟨rfl, x4, k4⟩
    replace l4 := l4 w4 x4
    replace k4 := k3.trans k4
    clear l3 k3 x4
    go_wp2_with fail
    refine l4.mono ?_
    rintro e w5 ⟨rfl, x5, k5⟩
    replace l5 := l5 w5 x5
    replace k5 := k4.trans k5
    clear l4 k4 x5
    by_cases h61 : pre [61] F3.rest = true
    · rw [h61] at l5
      have hl1 : 1 ≤ F3.rest.length := pre_length h61
      have HG2 : Hid (G = ((F3.cut 1).cutTo (hdOut blk)).val2) := by show G = _; rw [HG.out, if_pos h61]
      rw [← HG2.out] at l6
      clear HG HG2 h61
      go_wp2_with fail
      refine l5.mono ?_
      rintro e w6 ⟨rfl, x6, k6⟩
      replace k6 := k5.trans k6
      obtain ⟨e6, d6, z6, g6, x7, k7⟩ := HF3.out w6 x6 hl1
      obtain ⟨W7, hW7⟩ : ∃ W, w6.setCell ⟨p, 1, none⟩ (.int .i64 ((e6 : Int) + 1)) = W := ⟨_, rfl⟩
      have HW7 : Hid (w6.setCell ⟨p, 1, none⟩ (.int .i64 ((e6 : Int) + 1)) = W7) := hW7
      rw [hW7] at x7 k7
      replace k7 := k6.trans k7
      replace l6 := l6 W7 x7
      clear l5 k5 k6 x6 x7 hW7 HF3 hl1
      go_upto_region 11 with fail
      rw [HW7.out]
      clear HW7 d6 g6 z6
      go_wp2_with fail
      refine l6.mono ?_
      rintro e wX ⟨rfl, xX, kX⟩
      replace kX := k7.trans kX
      clear l6 k7
      obtain ⟨ok, hok⟩ : ∃ v, G.ok = v := ⟨_, rfl⟩
      rw [hok]
      cases ok with
      | false =>
        have HR2 : Hid (R = ⟨G.st, attrs⟩) := by show R = _; rw [HRR.out, hok, if_neg (by decide)]
        have oo := HKA.out wX kX
        have kk := kX.mono HKK.out
        clear HRR HKA l7
        go_wp2
        go_ret2
        refine ⟨aa, ac, ?_, ?_, ?_, kk⟩
        · rw [HR2.out, hok]
          show _ = Ending.returned (.tuple #[.slice aa attrs.length ac, _])
          rw [HN.out]
          rfl
        · rw [HR2.out, HKE.out]
          exact xX
        · rw [HR2.out]
          show OwnZ _ _ _ _ _ attrs.length _ _
          rw [HN.out]
          exact oo
      | true =>
        have HOK : Hid (G.ok = true) := hok
        have HXX : Hid (DX s K' wX p G.st ∧ Kept K' w wX) := ⟨xX, kX⟩
        have HKN : Hid (OwnZ K wX 41 2 aa attrs.length ac (atrCells attrs)) := by rw [HN.out]; exact HKA.out wX kX
        obtain ⟨VL, hVL⟩ : ∃ x, allL true (cleanL G.v) = x := ⟨_, rfl⟩
        have HVL : Hid (allL true (cleanL G.v) = VL) := hVL
        rw [hVL]
        clear xX kX hok hVL
        have ats := ats_own0 (HKN.out)
        have HAT : Hid (∀ j, j < n → ∃ g nm, aa = some ⟨g, 0, none⟩ ∧ wX.cell? ⟨g, j * 2, none⟩ = some (sv nm) ∧ hasN (attrs.take (j + 1)) NM = (hasN (attrs.take j) NM || nm == NM)) := by
          intro j hj
          have hj' : j < attrs.length := by rw [HN.out]; exact hj
          obtain ⟨g, e1, -, c1, -⟩ := ats j hj'
          exact ⟨g, attrs[j].name, e1, c1, has_snoc attrs NM hj'⟩
        have HTK : Hid (hasN (attrs.take n) NM = hasN attrs NM) := by show hasN _ _ = _; rw [← HN.out, List.take_length]
        obtain ⟨q50, hq50⟩ : ∃ q, decide (50 ≤ n) = q := ⟨_, rfl⟩
        have hq50' : decide ((n : Int) ≥ 50) = q50 := by
          rw [← hq50]
          by_cases h : 50 ≤ n
          · rw [decide_eq_true h, decide_eq_true (by omega)]
          · rw [decide_eq_false h, decide_eq_false (by omega)]
        have HQ : Hid (decide (50 ≤ n) = q50) := hq50
        clear ats hq50
        go_wp2_with fail
        go_loopg [10, 11] n (fun gm tv iv wr => ∃ k : Nat, gm = n - k ∧ k ≤ n ∧ iv = .int .i64 k ∧ tv = .bool (q50 || hasN (attrs.take k) NM) ∧ wr = wX)
        case atStart => exact ⟨0, rfl, Nat.zero_le _, rfl, by rw [show hasN (attrs.take 0) NM = false from rfl, Bool.or_false], rfl⟩
        case round =>
          obtain ⟨k, hgk, hk, rfl, rfl, hw⟩ := hrel
          replace hw := hw.symm
          subst hw
          by_cases hltk : k < n
          · obtain ⟨g, nm, rfl, d0, hsn⟩ := HAT.out k hltk
            have HSN : Hid (hasN (attrs.take (k + 1)) NM = (hasN (attrs.take k) NM || nm == NM)) := hsn
            obtain ⟨hv, hhv⟩ : ∃ v, (q50 || hasN (attrs.take k) NM) = v := ⟨_, rfl⟩
            have HHV : Hid ((q50 || hasN (attrs.take k) NM) = hv) := hhv
            rw [hhv]
            clear hsn hhv HAT HTK
            cases hv with
            | true =>
              have HT : Hid ((q50 || hasN (attrs.take (k + 1)) NM) = true) := by show _ = true; rw [HSN.out, ← Bool.or_assoc, HHV.out]; rfl
              clear HSN HHV d0
              go_wp2
              go_roundg (n - (k + 1))
              case rel => exact ⟨k + 1, rfl, by omega, by go_num, by rw [HT.out], rfl⟩
              case measure => omega
            | false =>
              have HT : Hid ((q50 || hasN (attrs.take (k + 1)) NM) = (nm == NM)) := by show _ = _; rw [HSN.out, ← Bool.or_assoc, HHV.out]; rfl
              obtain ⟨U, hU⟩ : ∃ S : ByteArray, (⟨nm.toArray⟩ : ByteArray) = S := ⟨_, rfl⟩
              obtain ⟨U2, hU2⟩ : ∃ S : ByteArray, (⟨NM.toArray⟩ : ByteArray) = S := ⟨_, rfl⟩
              have HEQ : Hid ((U.toList == U2.toList) = (nm == NM)) := by show _ = _; rw [← hU, ← hU2, ByteArray.toList_eq, ByteArray.toList_eq]
              replace d0 : wX.cell? ⟨g, k * 2, none⟩ = some (Value.string U) := by rw [← hU]; exact d0
              have hU2' : Hid ((⟨NM.toArray⟩ : ByteArray) = U2) := hU2
              clear HSN HHV hU hU2
              go_wp2
              go_roundg (n - (k + 1))
              case rel =>
                refine ⟨k + 1, rfl, by omega, by go_num, ?_, rfl⟩
                rw [HT.out, ← HEQ.out, ← hU2'.out, ByteArray.toList_eq ⟨NM.toArray⟩]
              case measure => omega
          · have hkk : k = n := by omega
            subst hkk
            rw [HTK.out]
            obtain ⟨hv, hhv⟩ : ∃ v, (q50 || hasN attrs NM) = v := ⟨_, rfl⟩
            rw [hhv]
            cases hv with
            | true =>
              have HR2 : Hid (R = ⟨G.st.flt 5 b, attrs⟩) := by
                show R = _
                rw [HRR.out, HOK.out, if_pos rfl, if_pos]
                rcases Bool.or_eq_true_iff.1 hhv with h | h
                · rw [← HQ.out] at h
                  exact .inl (of_decide_eq_true h)
                · exact .inr h
              have HKX : Hid (∀ Y, Kept K' wX Y → Kept K w Y ∧ OwnZ K Y 41 2 aa k ac (atrCells attrs)) := fun Y hY => ⟨(HXX.out.2.trans hY).mono HKK.out, HKA.out Y (HXX.out.2.trans hY)⟩
              replace l7 := l7 wX HXX.out.1
              clear HAT HTK HQ hhv HRR HXX HKN HKA
              go_wp2_with fail
              refine l7.mono ?_
              rintro e w9 ⟨rfl, x9, k9⟩
              clear l7
              obtain ⟨kk, oo⟩ := HKX.out w9 k9
              clear HKX k9
              go_wp2
              go_ret2
              refine ⟨aa, ac, ?_, ?_, ?_, kk⟩
              · rw [HR2.out, HOK.out]
                show _ = Ending.returned (.tuple #[.slice aa attrs.length ac, _])
                rw [HN.out]
                rfl
              · rw [HR2.out, HKE.out]
                exact x9
              · rw [HR2.out]
                show OwnZ _ _ _ _ _ attrs.length _ _
                rw [HN.out]
                exact oo
            | false =>
              have HR2 : Hid (R = ⟨G.st, attrs ++ [⟨NM, allL true (cleanL G.v)⟩]⟩) := by
                show R = _
                rw [HRR.out, HOK.out, if_pos rfl, if_neg]
                rintro (h | h)
                · rw [← HQ.out, decide_eq_true h] at hhv
                  cases hhv
                · rw [h, Bool.or_true] at hhv
                  cases hhv
              have xx := HXX.out.1
              rw [← HKE.out] at xx
              obtain ⟨aa', ac', w', hrun, xA, oA, kA⟩ := xx.appA (attrs := attrs) (ac := ac) (by rw [HN.out]; exact HKA.out wX HXX.out.2) (by rw [HN.out]; omega) ⟨NM, VL⟩
              rw [HN.out] at hrun oA
              have HFIN : Hid (DX s (fun k => K k ∨ blkOf aa' k) w' p G.st ∧ OwnZ K w' 41 2 aa' (k + 1) ac' (atrCells (attrs ++ [⟨NM, VL⟩])) ∧ Kept K w w') := ⟨xA, oA, (HXX.out.2.mono HKK.out).trans kA⟩
              dsimp only at hrun
              clear HAT HTK HQ hhv HRR HXX HKN HKA xx xA oA kA l7
              go_wp2_with (at_builtin; refine wpList_appR (w' := w') rfl (.tmp 89) (.tmp 93) 36 36 rfl _ _ (.slice aa' (k + 1) ac') rfl rfl hrun ?_)
              go_wp2
              go_ret2
              refine ⟨aa', ac', ?_, ?_, ?_, HFIN.out.2.2⟩
              · rw [HR2.out, HOK.out]
                show _ = Ending.returned (.tuple #[.slice aa' (attrs ++ [_]).length ac', _])
                rw [List.length_append, HN.out]
                rfl
              · rw [HR2.out]
                exact HFIN.out.1
              · rw [HR2.out]
                show OwnZ _ _ _ _ _ (attrs ++ [_]).length _ _
                rw [List.length_append, HN.out, HVL.out]
                exact HFIN.out.2.1
    · replace h61 : pre [61] F3.rest = false := by simpa using h61
      rw [h61] at l5
      have HG2 : Hid (G = ⟨F3, [], true⟩) := by show G = _; rw [HG.out, h61, if_neg (by decide)]
      clear HG h61 l6 HF3
      go_wp2_with fail
      refine l5.mono ?_
      rintro e wX ⟨rfl, xX, kX⟩
      replace kX := k5.trans kX
      clear l5 k5
      have HOK : Hid (G.ok = true) := by rw [HG2.out]; rfl
      have HXX : Hid (DX s K' wX p G.st ∧ Kept K' w wX) := ⟨by rw [HG2.out]; exact xX, kX⟩
      have HKN : Hid (OwnZ K wX 41 2 aa attrs.length ac (atrCells attrs)) := by rw [HN.out]; exact HKA.out wX kX
      obtain ⟨VL, hVL⟩ : ∃ x : List UInt8, x = [] := ⟨_, rfl⟩
      have HVL : Hid (allL true (cleanL G.v) = VL) := by show _ = _; rw [HG2.out, hVL]; rfl
      have hVE : (⟨#[]⟩ : ByteArray) = ⟨VL.toArray⟩ := by rw [hVL]
      clear xX kX hVL HG2
      have ats := ats_own0 (HKN.out)
      have HAT : Hid (∀ j, j < n → ∃ g nm, aa = some ⟨g, 0, none⟩ ∧ wX.cell? ⟨g, j * 2, none⟩ = some (sv nm) ∧ hasN (attrs.take (j + 1)) NM = (hasN (attrs.take j) NM || nm == NM)) := by
        intro j hj
        have hj' : j < attrs.length := by rw [HN.out]; exact hj
        obtain ⟨g, e1, -, c1, -⟩ := ats j hj'
        exact ⟨g, attrs[j].name, e1, c1, has_snoc attrs NM hj'⟩
      have HTK : Hid (hasN (attrs.take n) NM = hasN attrs NM) := by show hasN _ _ = _; rw [← HN.out, List.take_length]
      obtain ⟨q50, hq50⟩ : ∃ q, decide (50 ≤ n) = q := ⟨_, rfl⟩
      have hq50' : decide ((n : Int) ≥ 50) = q50 := by
        rw [← hq50]
        by_cases h : 50 ≤ n
        · rw [decide_eq_true h, decide_eq_true (by omega)]
        · rw [decide_eq_false h, decide_eq_false (by omega)]
      have HQ : Hid (decide (50 ≤ n) = q50) := hq50
      clear ats hq50
      go_wp2_with fail
      go_loopg [10, 11] n (fun gm tv iv wr => ∃ k : Nat, gm = n - k ∧ k ≤ n ∧ iv = .int .i64 k ∧ tv = .bool (q50 || hasN (attrs.take k) NM) ∧ wr = wX)
      case atStart => exact ⟨0, rfl, Nat.zero_le _, rfl, by rw [show hasN (attrs.take 0) NM = false from rfl, Bool.or_false], rfl⟩
      case round =>
        obtain ⟨k, hgk, hk, rfl, rfl, hw⟩ := hrel
        replace hw := hw.symm
        subst hw
        by_cases hltk : k < n
        · obtain ⟨g, nm, rfl, d0, hsn⟩ := HAT.out k hltk
          have HSN : Hid (hasN (attrs.take (k + 1)) NM = (hasN (attrs.take k) NM || nm == NM)) := hsn
          obtain ⟨hv, hhv⟩ : ∃ v, (q50 || hasN (attrs.take k) NM) = v := ⟨_, rfl⟩
          have HHV : Hid ((q50 || hasN (attrs.take k) NM) = hv) := hhv
          rw [hhv]
          clear hsn hhv HAT HTK
          cases hv with
          | true =>
            have HT : Hid ((q50 || hasN (attrs.take (k + 1)) NM) = true) := by show _ = true; rw [HSN.out, ← Bool.or_assoc, HHV.out]; rfl
            clear HSN HHV d0
            go_wp2
            go_roundg (n - (k + 1))
            case rel => exact ⟨k + 1, rfl, by omega, by go_num, by rw [HT.out], rfl⟩
            case measure => omega
          | false =>
            have HT : Hid ((q50 || hasN (attrs.take (k + 1)) NM) = (nm == NM)) := by show _ = _; rw [HSN.out, ← Bool.or_assoc, HHV.out]; rfl
            obtain ⟨U, hU⟩ : ∃ S : ByteArray, (⟨nm.toArray⟩ : ByteArray) = S := ⟨_, rfl⟩
            obtain ⟨U2, hU2⟩ : ∃ S : ByteArray, (⟨NM.toArray⟩ : ByteArray) = S := ⟨_, rfl⟩
            have HEQ : Hid ((U.toList == U2.toList) = (nm == NM)) := by show _ = _; rw [← hU, ← hU2, ByteArray.toList_eq, ByteArray.toList_eq]
            replace d0 : wX.cell? ⟨g, k * 2, none⟩ = some (Value.string U) := by rw [← hU]; exact d0
            have hU2' : Hid ((⟨NM.toArray⟩ : ByteArray) = U2) := hU2
            clear HSN HHV hU hU2
            go_wp2
            go_roundg (n - (k + 1))
            case rel =>
              refine ⟨k + 1, rfl, by omega, by go_num, ?_, rfl⟩
              rw [HT.out, ← HEQ.out, ← hU2'.out, ByteArray.toList_eq ⟨NM.toArray⟩]
            case measure => omega
        · have hkk : k = n := by omega
          subst hkk
          rw [HTK.out]
          obtain ⟨hv, hhv⟩ : ∃ v, (q50 || hasN attrs NM) = v := ⟨_, rfl⟩
          rw [hhv]
          cases hv with
          | true =>
            have HR2 : Hid (R = ⟨G.st.flt 5 b, attrs⟩) := by
              show R = _
              rw [HRR.out, HOK.out, if_pos rfl, if_pos]
              rcases Bool.or_eq_true_iff.1 hhv with h | h
              · rw [← HQ.out] at h
                exact .inl (of_decide_eq_true h)
              · exact .inr h
            have HKX : Hid (∀ Y, Kept K' wX Y → Kept K w Y ∧ OwnZ K Y 41 2 aa k ac (atrCells attrs)) := fun Y hY => ⟨(HXX.out.2.trans hY).mono HKK.out, HKA.out Y (HXX.out.2.trans hY)⟩
            replace l7 := l7 wX HXX.out.1
            clear HAT HTK HQ hhv HRR HXX HKN HKA
            go_wp2_with fail
            refine l7.mono ?_
            rintro e w9 ⟨rfl, x9, k9⟩
            clear l7
            obtain ⟨kk, oo⟩ := HKX.out w9 k9
            clear HKX k9
            go_wp2
            go_ret2
            refine ⟨aa, ac, ?_, ?_, ?_, kk⟩
            · rw [HR2.out, HOK.out]
              show _ = Ending.returned (.tuple #[.slice aa attrs.length ac, _])
              rw [HN.out]
              rfl
            · rw [HR2.out, HKE.out]
              exact x9
            · rw [HR2.out]
              show OwnZ _ _ _ _ _ attrs.length _ _
              rw [HN.out]
              exact oo
          | false =>
            have HR2 : Hid (R = ⟨G.st, attrs ++ [⟨NM, allL true (cleanL G.v)⟩]⟩) := by
              show R = _
              rw [HRR.out, HOK.out, if_pos rfl, if_neg]
              rintro (h | h)
              · rw [← HQ.out, decide_eq_true h] at hhv
                cases hhv
              · rw [h, Bool.or_true] at hhv
                cases hhv
            have xx := HXX.out.1
            rw [← HKE.out] at xx
            obtain ⟨aa', ac', w', hrun, xA, oA, kA⟩ := xx.appA (attrs := attrs) (ac := ac) (by rw [HN.out]; exact HKA.out wX HXX.out.2) (by rw [HN.out]; omega) ⟨NM, VL⟩
            rw [HN.out] at hrun oA
            have HFIN : Hid (DX s (fun k => K k ∨ blkOf aa' k) w' p G.st ∧ OwnZ K w' 41 2 aa' (k + 1) ac' (atrCells (attrs ++ [⟨NM, VL⟩])) ∧ Kept K w w') := ⟨xA, oA, (HXX.out.2.mono HKK.out).trans kA⟩
            dsimp only at hrun
            clear HAT HTK HQ hhv HRR HXX HKN HKA xx xA oA kA l7
            go_wp2_with (at_builtin; refine wpList_appR (w' := w') rfl (.tmp 89) (.tmp 93) 36 36 rfl _ _ (.slice aa' (k + 1) ac') rfl rfl hrun ?_)
            go_wp2
            go_ret2
            refine ⟨aa', ac', ?_, ?_, ?_, HFIN.out.2.2⟩
            · rw [HR2.out, HOK.out]
              show _ = Ending.returned (.tuple #[.slice aa' (attrs ++ [_]).length ac', _])
              rw [List.length_append, HN.out]
              rfl
            · rw [HR2.out]
              exact HFIN.out.1
            · rw [HR2.out]
              show OwnZ _ _ _ _ _ (attrs ++ [_]).length _ _
              rw [List.length_append, HN.out, HVL.out]
              exact HFIN.out.2.1
end Go.Proofs.Ytffllhohlfblnaa
