/-
  A node is taken out of its row, in memory (chain.takeOut), for the chain of gifts.
-/
import Derived.Test.YthhoicmfmfeehaaGreatZ02
namespace Go.Proofs.YthhoicmfmfeehaaGreat
open Go.RowKit
set_option linter.unusedVariables false
theorem DY.gcell {K : Nat → Prop} {w : World} {p : Nat} {S : Dm} {g : Nat} {cap : Nat} (h : DY K w p S (some ⟨g, 0, none⟩) cap) {i : Nat} (hi : i < S.n) :
    w.cell? ⟨g, i * 22 + 17, none⟩ = some (.int .i64 (S.gf i).up) ∧ w.cell? ⟨g, i * 22 + 18, none⟩ = some (.int .i64 (S.gf i).prev) ∧ w.cell? ⟨g, i * 22 + 19, none⟩ = some (.int .i64 (S.gf i).next) ∧ w.cell? ⟨g, i * 22 + 20, none⟩ = some (.int .i64 (S.gf i).first) ∧ w.cell? ⟨g, i * 22 + 21, none⟩ = some (.int .i64 (S.gf i).last) := by
  obtain ⟨aa, ac, hc, -⟩ := h.cell hi
  exact ⟨hc 17 _ rfl, hc 18 _ rfl, hc 19 _ rfl, hc 20 _ rfl, hc 21 _ rfl⟩
theorem setG_setG (S : Dm) (L L' : Nat → Lk) : (S.setG L).setG L' = S.setG L' := rfl

set_option maxRecDepth 20000 in
set_option maxHeartbeats 2000000 in
theorem takeOutG (K : Nat → Prop) (p g cap i : Nat) (S : Dm) (R : Nat → List Nat) (w : World) (h : DY K w p S (some ⟨g, 0, none⟩) cap) (hW : WF S.n S.gf R) (hi : i < S.n) (hn : S.n ≤ 1000000000) :
    Calls Tryz.prog 67 #[chG p, .int .i64 (i : Int)] w fun e w' => e = .returned (.tuple #[]) ∧ DY K w' p (S.setG (outL S.gf i)) (some ⟨g, 0, none⟩) cap ∧ Kept K w w' := by
  obtain ⟨n, hne⟩ : ∃ n, S.n = n := ⟨_, rfl⟩
  have r1 := fun (j : Nat) (hj : j < n) (X : World) (hX : X.cell? ⟨p, 1, none⟩ = some (.slice (some ⟨g, 0, none⟩) n cap)) => giftOf_any p g n cap j X hX hj (by omega)
  have hc := h.c1
  obtain ⟨c0, c1, c2, -, -⟩ := h.gcell hi
  have HY : Hid (DY K w p S (some ⟨g, 0, none⟩) cap) := h
  have HW : Hid (WF S.n S.gf R) := hW
  have HNE : Hid (S.n = n) := hne
  rw [hne] at hc hi
  rcases hW.inn i (by omega) with hup | ⟨u, hu, hup, -⟩
  · rw [hup] at c0
    have e : outL S.gf i = S.gf := if_pos hup
    rw [e]
    clear h hW hne hn hup e c1 c2
    have r := r1 i hi w hc
    clear r1
    go_enter Tryz.func67, Tryz.ntmps67
    go_wp2_with (go_at_call 104; refine r.mono ?_; rintro e w' ⟨rfl, rfl⟩)
    refine bodyPost_ret (results_none rfl _ _ _) rfl ?_
    exact ⟨rfl, HY.out, Kept.refl _ _⟩
  obtain ⟨hu', hpv, hnx⟩ := hW.prev_or (by omega) hup
  have HP : Hid ((S.gf i).prev = -1 ∨ ∃ m : Nat, m < S.n ∧ m ≠ i ∧ (S.gf i).prev = (m : Int)) := hpv
  have HN : Hid ((S.gf i).next = -1 ∨ ∃ m : Nat, m < S.n ∧ m ≠ i ∧ (S.gf i).next = (m : Int)) := hnx
  have HU : Hid ((S.gf i).up = (u : Int)) := hup
  have h1' : (S.gf i).prev = -1 ∨ ∃ m : Nat, m ≠ i ∧ (S.gf i).prev = (m : Int) := by
    rcases hpv with h | ⟨m, _, h1, h2⟩
    · exact .inl h
    · exact .inr ⟨m, h1, h2⟩
  have h2' : (S.gf i).next = -1 ∨ ∃ m : Nat, m ≠ i ∧ (S.gf i).next = (m : Int) := by
    rcases hnx with h | ⟨m, _, h1, h2⟩
    · exact .inl h
    · exact .inr ⟨m, h1, h2⟩
  have H1 : Hid ((S.gf i).prev = -1 ∨ ∃ m : Nat, m ≠ i ∧ (S.gf i).prev = (m : Int)) := h1'
  have H2 : Hid ((S.gf i).next = -1 ∨ ∃ m : Nat, m ≠ i ∧ (S.gf i).next = (m : Int)) := h2'
  rw [hup] at c0
  rw [hne] at hu'
  have hgp := h.gk.2.1
  have hu0 : ((u : Int) == -1) = false := by simp
  have ri := r1 i hi
  have ru := r1 u hu'
  obtain ⟨pv, hpe⟩ : ∃ z, (S.gf i).prev = z := ⟨_, rfl⟩
  obtain ⟨nx, hxe⟩ : ∃ z, (S.gf i).next = z := ⟨_, rfl⟩
  rw [hpe] at c1
  rw [hxe] at c2
  have HPE : Hid ((S.gf i).prev = pv) := hpe
  have HXE : Hid ((S.gf i).next = nx) := hxe
  clear h hW hne hn hup hu hpv hnx hpe hxe h1' h2'
  go_enter Tryz.func67, Tryz.ntmps67
  go_upto_if 17 with (go_at_call 104; refine (ri _ hc).mono ?_; rintro e w' ⟨rfl, rfl⟩)
  go_cut [] (fun wx => DY K wx p (S.setG (st1 S.gf i)) (some ⟨g, 0, none⟩) cap ∧ Kept K w' wx)
  case first =>
    by_cases hp1 : pv = -1
    · subst hp1
      have e : st1 S.gf i = updL S.gf u { S.gf u with first := nx } := by
        unfold st1
        rw [if_pos HPE.out, HU.out, Int.toNat_natCast, HXE.out]
      obtain ⟨-, -, -, t3, -⟩ := HY.out.gcell (i := u) (by rw [HNE.out]; exact hu')
      have f3 := HY.out.fg (u * 22 + 20)
      have D := HY.out.setGfirst (i := u) (by rw [HNE.out]; exact hu') nx
      rw [← e] at D
      have HD : Hid (DY K (w'.setCell ⟨g, u * 22 + 20, none⟩ (.int .i64 nx)) p (S.setG (st1 S.gf i)) (some ⟨g, 0, none⟩) cap) := D.1
      have HK : Hid (Kept K w' (w'.setCell ⟨g, u * 22 + 20, none⟩ (.int .i64 nx))) := D.2
      clear D e HW HP HN HU H1 H2 HPE HXE HNE
      go_wp2_with fail
      go_region_with (go_at_call 104; refine (ru _ ?_).mono ?_; exact hc; rintro e w2 ⟨rfl, rfl⟩)
      all_goals
        go_wp2_with fail
        go_meet
        case rel => exact ⟨HD.out.drew, HK.out.drew⟩
    · rcases HP.out with e0 | ⟨m, hm, hmi, e0⟩
      · exact absurd (HPE.out.symm.trans e0) hp1
      have e1 : pv = (m : Int) := HPE.out.symm.trans e0
      subst e1
      rw [HNE.out] at hm
      have e : st1 S.gf i = updL S.gf m { S.gf m with next := nx } := by
        unfold st1
        rw [if_neg (by rw [e0]; exact hp1), e0, Int.toNat_natCast, HXE.out]
      obtain ⟨-, -, t2, -, -⟩ := HY.out.gcell (i := m) (by rw [HNE.out]; exact hm)
      have f2 := HY.out.fg (m * 22 + 19)
      have D := HY.out.setGnext (i := m) (by rw [HNE.out]; exact hm) nx
      rw [← e] at D
      have HD : Hid (DY K (w'.setCell ⟨g, m * 22 + 19, none⟩ (.int .i64 nx)) p (S.setG (st1 S.gf i)) (some ⟨g, 0, none⟩) cap) := D.1
      have HK : Hid (Kept K w' (w'.setCell ⟨g, m * 22 + 19, none⟩ (.int .i64 nx))) := D.2
      have rm := r1 m hm
      have hm0 : ((m : Int) == -1) = false := by simp
      clear D e e0 HW HP HN HU H1 H2 HPE HXE HNE hp1
      go_wp2_with fail
      go_region_with (go_at_call 104; refine (rm _ ?_).mono ?_; exact hc; rintro e w2 ⟨rfl, rfl⟩)
      all_goals
        go_wp2_with fail
        go_meet
        case rel => exact ⟨HD.out.drew, HK.out.drew⟩
  case rest =>
    obtain ⟨hY1, hK1⟩ := hcut
    obtain ⟨a1, a2, a3⟩ := st1_at H1.out
    have hiS : i < S.n := by rw [HNE.out]; exact hi
    obtain ⟨d0, d1, d2, -, -⟩ := hY1.gcell (i := i) hiS
    have hc' := hY1.c1
    replace d0 : wc.cell? ⟨g, i * 22 + 17, none⟩ = some (.int .i64 (u : Int)) := by rw [← HU.out, ← a1]; exact d0
    replace d1 : wc.cell? ⟨g, i * 22 + 18, none⟩ = some (.int .i64 pv) := by rw [← HPE.out, ← a2]; exact d1
    replace d2 : wc.cell? ⟨g, i * 22 + 19, none⟩ = some (.int .i64 nx) := by rw [← HXE.out, ← a3]; exact d2
    replace hc' : wc.cell? ⟨p, 1, none⟩ = some (.slice (some ⟨g, 0, none⟩) n cap) := by rw [← HNE.out]; exact hc'
    have HY1 : Hid (DY K wc p (S.setG (st1 S.gf i)) (some ⟨g, 0, none⟩) cap) := hY1
    have HK1 : Hid (Kept K w' wc) := hK1
    have HA : Hid ((st1 S.gf i i).up = (u : Int) ∧ (st1 S.gf i i).prev = pv ∧ (st1 S.gf i i).next = nx) := ⟨a1.trans HU.out, a2.trans HPE.out, a3.trans HXE.out⟩
    clear hY1 hK1 a1 a2 a3 c0 c1 c2 hc HY
    go_upto_if 46 with fail
    go_cut [] (fun wx => DY K wx p (S.setG (st2 (st1 S.gf i) i)) (some ⟨g, 0, none⟩) cap ∧ Kept K w' wx)
    case first =>
      by_cases hp1 : nx = -1
      · subst hp1
        have e : st2 (st1 S.gf i) i = updL (st1 S.gf i) u { st1 S.gf i u with last := pv } := by
          unfold st2
          rw [if_pos HA.out.2.2, HA.out.1, Int.toNat_natCast, HA.out.2.1]
        obtain ⟨-, -, -, -, t3⟩ := HY1.out.gcell (i := u) (by show u < S.n; rw [HNE.out]; exact hu')
        have f3 := HY1.out.fg (u * 22 + 21)
        have D := HY1.out.setGlast (i := u) (by show u < S.n; rw [HNE.out]; exact hu') pv
        have D1 : DY K (wc.setCell ⟨g, u * 22 + 21, none⟩ (.int .i64 pv)) p (S.setG (updL (st1 S.gf i) u { st1 S.gf i u with last := pv })) (some ⟨g, 0, none⟩) cap := D.1
        rw [← e] at D1
        have HD : Hid (DY K (wc.setCell ⟨g, u * 22 + 21, none⟩ (.int .i64 pv)) p (S.setG (st2 (st1 S.gf i) i)) (some ⟨g, 0, none⟩) cap) := D1
        have HK : Hid (Kept K w' (wc.setCell ⟨g, u * 22 + 21, none⟩ (.int .i64 pv))) := HK1.out.trans D.2
        clear D D1 e HW HP HN HU H1 H2 HPE HXE HNE HA
        go_wp2_with fail
        go_region_with (go_at_call 104; refine (ru _ ?_).mono ?_; exact hc'; rintro e w2 ⟨rfl, rfl⟩)
        all_goals
          go_wp2_with fail
          go_meet
          case rel => exact ⟨HD.out.drew, HK.out.drew⟩
      · rcases HN.out with e0 | ⟨m, hm, hmi, e0⟩
        · exact absurd (HXE.out.symm.trans e0) hp1
        have e1 : nx = (m : Int) := HXE.out.symm.trans e0
        subst e1
        rw [HNE.out] at hm
        have e : st2 (st1 S.gf i) i = updL (st1 S.gf i) m { st1 S.gf i m with prev := pv } := by
          unfold st2
          rw [if_neg (by rw [HA.out.2.2]; exact hp1), HA.out.2.2, Int.toNat_natCast, HA.out.2.1]
        obtain ⟨-, t3, -, -, -⟩ := HY1.out.gcell (i := m) (by show m < S.n; rw [HNE.out]; exact hm)
        have f3 := HY1.out.fg (m * 22 + 18)
        have D := HY1.out.setGprev (i := m) (by show m < S.n; rw [HNE.out]; exact hm) pv
        have D1 : DY K (wc.setCell ⟨g, m * 22 + 18, none⟩ (.int .i64 pv)) p (S.setG (updL (st1 S.gf i) m { st1 S.gf i m with prev := pv })) (some ⟨g, 0, none⟩) cap := D.1
        rw [← e] at D1
        have HD : Hid (DY K (wc.setCell ⟨g, m * 22 + 18, none⟩ (.int .i64 pv)) p (S.setG (st2 (st1 S.gf i) i)) (some ⟨g, 0, none⟩) cap) := D1
        have HK : Hid (Kept K w' (wc.setCell ⟨g, m * 22 + 18, none⟩ (.int .i64 pv))) := HK1.out.trans D.2
        have rm := r1 m hm
        have hm0 : ((m : Int) == -1) = false := by simp
        clear D D1 e e0 HW HP HN HU H1 H2 HPE HXE HNE HA hp1
        go_wp2_with fail
        go_region_with (go_at_call 104; refine (rm _ ?_).mono ?_; exact hc'; rintro e w2 ⟨rfl, rfl⟩)
        all_goals
          go_wp2_with fail
          go_meet
          case rel => exact ⟨HD.out.drew, HK.out.drew⟩
    case rest =>
      obtain ⟨hY2, hK2⟩ := hcut
      obtain ⟨e0, e1, e2, -, -⟩ := hY2.gcell (i := i) hiS
      have f0 := hY2.fg (i * 22 + 17)
      have f1 := hY2.fg (i * 22 + 18)
      have f2 := hY2.fg (i * 22 + 19)
      have D1 := hY2.setGup (i := i) hiS (-1)
      have D2 := D1.1.setGprev (i := i) hiS (-1)
      have D3 := D2.1.setGnext (i := i) hiS (-1)
      have HK3 : Hid (Kept K w' (((wc.setCell ⟨g, i * 22 + 17, none⟩ (.int .i64 (-1))).setCell ⟨g, i * 22 + 18, none⟩ (.int .i64 (-1))).setCell ⟨g, i * 22 + 19, none⟩ (.int .i64 (-1)))) := hK2.trans (D1.2.trans (D2.2.trans D3.2))
      have HD3 := D3.1
      have eo : updL (updL (updL (st2 (st1 S.gf i) i) i { st2 (st1 S.gf i) i i with up := -1 }) i { updL (st2 (st1 S.gf i) i) i { st2 (st1 S.gf i) i i with up := -1 } i with prev := -1 }) i { updL (updL (st2 (st1 S.gf i) i) i { st2 (st1 S.gf i) i i with up := -1 }) i { updL (st2 (st1 S.gf i) i) i { st2 (st1 S.gf i) i i with up := -1 } i with prev := -1 } i with next := -1 } = outL S.gf i := by
        rw [updL_updL, updL_updL, updL_same, updL_same]
        exact st_out HU.out H1.out H2.out _ rfl
      replace HD3 : Hid (DY K (((wc.setCell ⟨g, i * 22 + 17, none⟩ (.int .i64 (-1))).setCell ⟨g, i * 22 + 18, none⟩ (.int .i64 (-1))).setCell ⟨g, i * 22 + 19, none⟩ (.int .i64 (-1))) p (S.setG (outL S.gf i)) (some ⟨g, 0, none⟩) cap) := by
        rw [← eo]
        exact HD3
      clear D1 D2 D3 hY2 hK2 eo HW HP HN HU H1 H2 HPE HXE HNE HA HY1 HK1 hc' d0 d1 d2
      go_wp2
      go_end0
      exact ⟨rfl, HD3.out, HK3.out⟩
end Go.Proofs.YthhoicmfmfeehaaGreat
