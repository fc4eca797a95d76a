/-
  A node is taken out of its row, in memory (chain.takeOut), for the chain of places.
  A node is taken out of its row, in memory (chain.takeOut), for the chain of gifts.
  A node is put into a row, in memory (chain.put), for the chain of places.
  A node is put into a row, in memory (chain.put), for the chain of gifts.
-/
import Derived.Test.YtbhfnbplbkncmaaGreatZ05
import Derived.Deep.DeepCutAuto
namespace Go.Proofs.YtbhfnbplbkncmaaGreat
open Go.RowKit
set_option linter.unusedVariables false

theorem WF.prev_or {n : Nat} {L : Nat → Lk} {R : Nat → List Nat} (h : WF n L R) {i u : Nat} (hi : i < n) (hu : (L i).up = (u : Int)) :
    u < n ∧ ((L i).prev = -1 ∨ ∃ m : Nat, m < n ∧ m ≠ i ∧ (L i).prev = (m : Int)) ∧ ((L i).next = -1 ∨ ∃ m : Nat, m < n ∧ m ≠ i ∧ (L i).next = (m : Int)) := by
  rcases h.inn i hi with h0 | ⟨v, hv, h1, h2⟩
  · omega
  have : v = u := by omega
  subst this
  obtain ⟨a, b, e⟩ := mem_split h2
  obtain ⟨hp, hq⟩ := h.split hv e
  have hnd := h.nodup v hv
  have hlt := h.lt v hv
  rw [e] at hnd hlt
  have hia : i ∉ a := fun hh => (List.nodup_append.1 hnd).2.2 i hh i (List.mem_cons_self ..) rfl
  have hib : i ∉ b := (List.nodup_cons.1 (List.nodup_append.1 hnd).2.1).1
  refine ⟨hv, ?_, ?_⟩
  · rw [hp]
    rcases lsD_or a with ⟨-, e1⟩ | ⟨m, m1, e1⟩
    · exact .inl e1
    · exact .inr ⟨m, hlt m (List.mem_append_left _ m1), fun e => hia (e ▸ m1), e1⟩
  · rw [hq]
    rcases hdD_or b with ⟨-, e1⟩ | ⟨m, m1, e1⟩
    · exact .inl e1
    · exact .inr ⟨m, hlt m (List.mem_append_right _ (List.mem_cons_of_mem _ m1)), fun e => hib (e ▸ m1), e1⟩
def st1 (L : Nat → Lk) (i : Nat) : Nat → Lk := if (L i).prev = -1 then updL L (L i).up.toNat { L (L i).up.toNat with first := (L i).next } else updL L (L i).prev.toNat { L (L i).prev.toNat with next := (L i).next }
def st2 (L : Nat → Lk) (i : Nat) : Nat → Lk := if (L i).next = -1 then updL L (L i).up.toNat { L (L i).up.toNat with last := (L i).prev } else updL L (L i).next.toNat { L (L i).next.toNat with prev := (L i).prev }
theorem updL_same (L : Nat → Lk) (i : Nat) (l : Lk) : updL L i l i = l := if_pos rfl
theorem updL_updL (L : Nat → Lk) (i : Nat) (a b : Lk) : updL (updL L i a) i b = updL L i b := by
  funext k
  unfold updL
  by_cases c : k = i
  · rw [if_pos c, if_pos c]
  · rw [if_neg c, if_neg c, if_neg c]
theorem updL_ne (L : Nat → Lk) {i k : Nat} (l : Lk) (h : k ≠ i) : updL L i l k = L k := if_neg h
theorem st1_at {L : Nat → Lk} {i : Nat} (h : (L i).prev = -1 ∨ ∃ m : Nat, m ≠ i ∧ (L i).prev = (m : Int)) : (st1 L i i).up = (L i).up ∧ (st1 L i i).prev = (L i).prev ∧ (st1 L i i).next = (L i).next := by
  unfold st1
  rcases h with h | ⟨m, h1, h2⟩
  · rw [if_pos h]
    unfold updL
    by_cases c : i = (L i).up.toNat
    · rw [if_pos c, ← c]; exact ⟨rfl, rfl, rfl⟩
    · rw [if_neg c]; exact ⟨rfl, rfl, rfl⟩
  · rw [if_neg (by omega)]
    unfold updL
    rw [if_neg (by rw [h2, Int.toNat_natCast]; exact fun e => h1 e.symm)]
    exact ⟨rfl, rfl, rfl⟩
theorem st2_at {L : Nat → Lk} {i : Nat} (h : (L i).next = -1 ∨ ∃ m : Nat, m ≠ i ∧ (L i).next = (m : Int)) : (st2 L i i).up = (L i).up ∧ (st2 L i i).prev = (L i).prev ∧ (st2 L i i).next = (L i).next := by
  unfold st2
  rcases h with h | ⟨m, h1, h2⟩
  · rw [if_pos h]
    unfold updL
    by_cases c : i = (L i).up.toNat
    · rw [if_pos c, ← c]; exact ⟨rfl, rfl, rfl⟩
    · rw [if_neg c]; exact ⟨rfl, rfl, rfl⟩
  · rw [if_neg (by omega)]
    unfold updL
    rw [if_neg (by rw [h2, Int.toNat_natCast]; exact fun e => h1 e.symm)]
    exact ⟨rfl, rfl, rfl⟩
theorem st_out {L : Nat → Lk} {i u : Nat} (hu : (L i).up = (u : Int)) (h1 : (L i).prev = -1 ∨ ∃ m : Nat, m ≠ i ∧ (L i).prev = (m : Int)) (h2 : (L i).next = -1 ∨ ∃ m : Nat, m ≠ i ∧ (L i).next = (m : Int)) (l : Lk) (hl : l = { st2 (st1 L i) i i with up := -1, prev := -1, next := -1 }) :
    updL (st2 (st1 L i) i) i l = outL L i := by
  subst hl
  obtain ⟨a1, a2, a3⟩ := st1_at h1
  have h2' : (st1 L i i).next = -1 ∨ ∃ m : Nat, m ≠ i ∧ (st1 L i i).next = (m : Int) := by rw [a3]; exact h2
  obtain ⟨b1, b2, b3⟩ := st2_at h2'
  unfold outL
  rw [if_neg (by omega)]
  funext k
  have key : ∀ k, st2 (st1 L i) i k = ⟨(L k).up, if (k : Int) = (L i).next then (L i).prev else (L k).prev, if (k : Int) = (L i).prev then (L i).next else (L k).next, if (k : Int) = (L i).up ∧ (L i).prev = -1 then (L i).next else (L k).first, if (k : Int) = (L i).up ∧ (L i).next = -1 then (L i).prev else (L k).last⟩ := by
    intro k
    unfold st2
    rw [a1, a2, a3]
    unfold st1
    rw [hu, Int.toNat_natCast]
    rcases h1 with h1 | ⟨m1, c1, h1⟩
    · rw [if_pos h1, h1]
      rcases h2 with h2 | ⟨m2, c2, h2⟩
      · rw [if_pos h2, h2]
        unfold updL
        by_cases c : k = u
        · subst c; simp
        · have : ¬ ((k : Int) = (u : Int)) := by omega
          have e1 : ¬ ((k : Int) = -1) := by omega
          simp [*]
      · have n2 : ¬ (L i).next = -1 := by omega
        simp only [if_neg n2]
        rw [h2, Int.toNat_natCast]
        unfold updL
        have e1 : ¬ ((k : Int) = -1) := by omega
        have e2 : ¬ ((m2 : Int) = -1) := by omega
        by_cases c : k = u
        · subst c
          by_cases c' : k = m2
          · subst c'; simp [*]
          · have : ¬ ((k : Int) = (m2 : Int)) := by omega
            simp [*]
        · have hku : ¬ ((k : Int) = (u : Int)) := by omega
          by_cases c' : k = m2
          · subst c'; simp [*]
          · have : ¬ ((k : Int) = (m2 : Int)) := by omega
            simp [*]
    · have n1 : ¬ (L i).prev = -1 := by omega
      simp only [if_neg n1]
      rw [h1, Int.toNat_natCast]
      have e1 : ¬ ((k : Int) = -1) := by omega
      have e3 : ¬ ((m1 : Int) = -1) := by omega
      rcases h2 with h2 | ⟨m2, c2, h2⟩
      · rw [if_pos h2, h2]
        unfold updL
        by_cases c : k = u
        · subst c
          by_cases c' : k = m1
          · subst c'; simp [*]
          · have : ¬ ((k : Int) = (m1 : Int)) := by omega
            simp [*]
        · have hku : ¬ ((k : Int) = (u : Int)) := by omega
          by_cases c' : k = m1
          · subst c'; simp [*]
          · have : ¬ ((k : Int) = (m1 : Int)) := by omega
            simp [*]
      · have n2 : ¬ (L i).next = -1 := by omega
        simp only [if_neg n2]
        rw [h2, Int.toNat_natCast]
        unfold updL
        have e2 : ¬ ((m2 : Int) = -1) := by omega
        by_cases c : k = m2
        · subst c
          by_cases c' : k = m1
          · subst c'; simp [*]
          · have : ¬ ((k : Int) = (m1 : Int)) := by omega
            simp [*]
        · have hkm : ¬ ((k : Int) = (m2 : Int)) := by omega
          by_cases c' : k = m1
          · subst c'; simp [*]
          · have : ¬ ((k : Int) = (m1 : Int)) := by omega
            simp [*]
  unfold updL
  by_cases c : k = i
  · subst c
    rw [if_pos rfl, key k]
    simp
  · rw [if_neg c, key k]
    simp [c]

theorem DY.pcell {K : Nat → Prop} {w : World} {p : Nat} {S : Dm} {g : Nat} {cap : Nat} (h : DY K w p S (some ⟨g, 0, none⟩) cap) {i : Nat} (hi : i < S.n) :
    w.cell? ⟨g, i * 22 + 12, none⟩ = some (.int .i64 (S.pl i).up) ∧ w.cell? ⟨g, i * 22 + 13, none⟩ = some (.int .i64 (S.pl i).prev) ∧ w.cell? ⟨g, i * 22 + 14, none⟩ = some (.int .i64 (S.pl i).next) ∧ w.cell? ⟨g, i * 22 + 15, none⟩ = some (.int .i64 (S.pl i).first) ∧ w.cell? ⟨g, i * 22 + 16, none⟩ = some (.int .i64 (S.pl i).last) := by
  obtain ⟨aa, ac, hc, -⟩ := h.cell hi
  exact ⟨hc 12 _ rfl, hc 13 _ rfl, hc 14 _ rfl, hc 15 _ rfl, hc 16 _ rfl⟩
theorem setP_setP (S : Dm) (L L' : Nat → Lk) : (S.setP L).setP L' = S.setP L' := rfl
theorem DY.drew {K : Nat → Prop} {w : World} {p : Nat} {S : Dm} {ga : Option Addr} {cap : Nat} (h : DY K w p S ga cap) : DY K w.drew p S ga cap := h.kept (Kept.refl _ w).drew

set_option maxRecDepth 20000 in
set_option maxHeartbeats 2000000 in
theorem takeOutP (K : Nat → Prop) (p g cap i : Nat) (S : Dm) (R : Nat → List Nat) (w : World) (h : DY K w p S (some ⟨g, 0, none⟩) cap) (hW : WF S.n S.pl R) (hi : i < S.n) (hn : S.n ≤ 1000000000) :
    Calls Tryz.prog 103 #[chP p, .int .i64 (i : Int)] w fun e w' => e = .returned (.tuple #[]) ∧ DY K w' p (S.setP (outL S.pl i)) (some ⟨g, 0, none⟩) cap ∧ Kept K w w' := by
  obtain ⟨n, hne⟩ : ∃ n, S.n = n := ⟨_, rfl⟩
  have r1 := fun (j : Nat) (hj : j < n) (X : World) (hX : X.cell? ⟨p, 1, none⟩ = some (.slice (some ⟨g, 0, none⟩) n cap)) => placeOf_any p g n cap j X hX hj (by omega)
  have hc := h.c1
  obtain ⟨c0, c1, c2, -, -⟩ := h.pcell hi
  have HY : Hid (DY K w p S (some ⟨g, 0, none⟩) cap) := h
  have HW : Hid (WF S.n S.pl R) := hW
  have HNE : Hid (S.n = n) := hne
  rw [hne] at hc hi
  rcases hW.inn i (by omega) with hup | ⟨u, hu, hup, -⟩
  · rw [hup] at c0
    have e : outL S.pl i = S.pl := if_pos hup
    rw [e]
    clear h hW hne hn hup e c1 c2
    have r := r1 i hi w hc
    clear r1
    go_enter Tryz.func103, Tryz.ntmps103
    go_wp2_with (go_at_call 139; refine r.mono ?_; rintro e w' ⟨rfl, rfl⟩)
    refine bodyPost_ret (results_none rfl _ _ _) rfl ?_
    exact ⟨rfl, HY.out, Kept.refl _ _⟩
  obtain ⟨hu', hpv, hnx⟩ := hW.prev_or (by omega) hup
  have HP : Hid ((S.pl i).prev = -1 ∨ ∃ m : Nat, m < S.n ∧ m ≠ i ∧ (S.pl i).prev = (m : Int)) := hpv
  have HN : Hid ((S.pl i).next = -1 ∨ ∃ m : Nat, m < S.n ∧ m ≠ i ∧ (S.pl i).next = (m : Int)) := hnx
  have HU : Hid ((S.pl i).up = (u : Int)) := hup
  have h1' : (S.pl i).prev = -1 ∨ ∃ m : Nat, m ≠ i ∧ (S.pl i).prev = (m : Int) := by
    rcases hpv with h | ⟨m, _, h1, h2⟩
    · exact .inl h
    · exact .inr ⟨m, h1, h2⟩
  have h2' : (S.pl i).next = -1 ∨ ∃ m : Nat, m ≠ i ∧ (S.pl i).next = (m : Int) := by
    rcases hnx with h | ⟨m, _, h1, h2⟩
    · exact .inl h
    · exact .inr ⟨m, h1, h2⟩
  have H1 : Hid ((S.pl i).prev = -1 ∨ ∃ m : Nat, m ≠ i ∧ (S.pl i).prev = (m : Int)) := h1'
  have H2 : Hid ((S.pl i).next = -1 ∨ ∃ m : Nat, m ≠ i ∧ (S.pl i).next = (m : Int)) := h2'
  rw [hup] at c0
  rw [hne] at hu'
  have hgp := h.gk.2.1
  have hu0 : ((u : Int) == -1) = false := by simp
  have ri := r1 i hi
  have ru := r1 u hu'
  obtain ⟨pv, hpe⟩ : ∃ z, (S.pl i).prev = z := ⟨_, rfl⟩
  obtain ⟨nx, hxe⟩ : ∃ z, (S.pl i).next = z := ⟨_, rfl⟩
  rw [hpe] at c1
  rw [hxe] at c2
  have HPE : Hid ((S.pl i).prev = pv) := hpe
  have HXE : Hid ((S.pl i).next = nx) := hxe
  clear h hW hne hn hup hu hpv hnx hpe hxe h1' h2'
  go_enter Tryz.func103, Tryz.ntmps103
  go_upto_if 17 with (go_at_call 139; refine (ri _ hc).mono ?_; rintro e w' ⟨rfl, rfl⟩)
  go_cut [] (fun wx => DY K wx p (S.setP (st1 S.pl i)) (some ⟨g, 0, none⟩) cap ∧ Kept K w' wx)
  case first =>
    by_cases hp1 : pv = -1
    · subst hp1
      have e : st1 S.pl i = updL S.pl u { S.pl u with first := nx } := by
        unfold st1
        rw [if_pos HPE.out, HU.out, Int.toNat_natCast, HXE.out]
      obtain ⟨-, -, -, t3, -⟩ := HY.out.pcell (i := u) (by rw [HNE.out]; exact hu')
      have f3 := HY.out.fg (u * 22 + 15)
      have D := HY.out.setPfirst (i := u) (by rw [HNE.out]; exact hu') nx
      rw [← e] at D
      have HD : Hid (DY K (w'.setCell ⟨g, u * 22 + 15, none⟩ (.int .i64 nx)) p (S.setP (st1 S.pl i)) (some ⟨g, 0, none⟩) cap) := D.1
      have HK : Hid (Kept K w' (w'.setCell ⟨g, u * 22 + 15, none⟩ (.int .i64 nx))) := D.2
      clear D e HW HP HN HU H1 H2 HPE HXE HNE
      go_wp2_with fail
      go_region_with (go_at_call 139; refine (ru _ ?_).mono ?_; exact hc; rintro e w2 ⟨rfl, rfl⟩)
      all_goals
        go_wp2_with fail
        go_meet
        case rel => exact ⟨HD.out.drew, HK.out.drew⟩
    · rcases HP.out with e0 | ⟨m, hm, hmi, e0⟩
      · exact absurd (HPE.out.symm.trans e0) hp1
      have e1 : pv = (m : Int) := HPE.out.symm.trans e0
      subst e1
      rw [HNE.out] at hm
      have e : st1 S.pl i = updL S.pl m { S.pl m with next := nx } := by
        unfold st1
        rw [if_neg (by rw [e0]; exact hp1), e0, Int.toNat_natCast, HXE.out]
      obtain ⟨-, -, t2, -, -⟩ := HY.out.pcell (i := m) (by rw [HNE.out]; exact hm)
      have f2 := HY.out.fg (m * 22 + 14)
      have D := HY.out.setPnext (i := m) (by rw [HNE.out]; exact hm) nx
      rw [← e] at D
      have HD : Hid (DY K (w'.setCell ⟨g, m * 22 + 14, none⟩ (.int .i64 nx)) p (S.setP (st1 S.pl i)) (some ⟨g, 0, none⟩) cap) := D.1
      have HK : Hid (Kept K w' (w'.setCell ⟨g, m * 22 + 14, none⟩ (.int .i64 nx))) := D.2
      have rm := r1 m hm
      have hm0 : ((m : Int) == -1) = false := by simp
      clear D e e0 HW HP HN HU H1 H2 HPE HXE HNE hp1
      go_wp2_with fail
      go_region_with (go_at_call 139; refine (rm _ ?_).mono ?_; exact hc; rintro e w2 ⟨rfl, rfl⟩)
      all_goals
        go_wp2_with fail
        go_meet
        case rel => exact ⟨HD.out.drew, HK.out.drew⟩
  case rest =>
    obtain ⟨hY1, hK1⟩ := hcut
    obtain ⟨a1, a2, a3⟩ := st1_at H1.out
    have hiS : i < S.n := by rw [HNE.out]; exact hi
    obtain ⟨d0, d1, d2, -, -⟩ := hY1.pcell (i := i) hiS
    have hc' := hY1.c1
    replace d0 : wc.cell? ⟨g, i * 22 + 12, none⟩ = some (.int .i64 (u : Int)) := by rw [← HU.out, ← a1]; exact d0
    replace d1 : wc.cell? ⟨g, i * 22 + 13, none⟩ = some (.int .i64 pv) := by rw [← HPE.out, ← a2]; exact d1
    replace d2 : wc.cell? ⟨g, i * 22 + 14, none⟩ = some (.int .i64 nx) := by rw [← HXE.out, ← a3]; exact d2
    replace hc' : wc.cell? ⟨p, 1, none⟩ = some (.slice (some ⟨g, 0, none⟩) n cap) := by rw [← HNE.out]; exact hc'
    have HY1 : Hid (DY K wc p (S.setP (st1 S.pl i)) (some ⟨g, 0, none⟩) cap) := hY1
    have HK1 : Hid (Kept K w' wc) := hK1
    have HA : Hid ((st1 S.pl i i).up = (u : Int) ∧ (st1 S.pl i i).prev = pv ∧ (st1 S.pl i i).next = nx) := ⟨a1.trans HU.out, a2.trans HPE.out, a3.trans HXE.out⟩
    clear hY1 hK1 a1 a2 a3 c0 c1 c2 hc HY
    go_upto_if 46 with fail
    go_cut [] (fun wx => DY K wx p (S.setP (st2 (st1 S.pl i) i)) (some ⟨g, 0, none⟩) cap ∧ Kept K w' wx)
    case first =>
      by_cases hp1 : nx = -1
      · subst hp1
        have e : st2 (st1 S.pl i) i = updL (st1 S.pl i) u { st1 S.pl i u with last := pv } := by
          unfold st2
          rw [if_pos HA.out.2.2, HA.out.1, Int.toNat_natCast, HA.out.2.1]
        obtain ⟨-, -, -, -, t3⟩ := HY1.out.pcell (i := u) (by show u < S.n; rw [HNE.out]; exact hu')
        have f3 := HY1.out.fg (u * 22 + 16)
        have D := HY1.out.setPlast (i := u) (by show u < S.n; rw [HNE.out]; exact hu') pv
        have D1 : DY K (wc.setCell ⟨g, u * 22 + 16, none⟩ (.int .i64 pv)) p (S.setP (updL (st1 S.pl i) u { st1 S.pl i u with last := pv })) (some ⟨g, 0, none⟩) cap := D.1
        rw [← e] at D1
        have HD : Hid (DY K (wc.setCell ⟨g, u * 22 + 16, none⟩ (.int .i64 pv)) p (S.setP (st2 (st1 S.pl i) i)) (some ⟨g, 0, none⟩) cap) := D1
        have HK : Hid (Kept K w' (wc.setCell ⟨g, u * 22 + 16, none⟩ (.int .i64 pv))) := HK1.out.trans D.2
        clear D D1 e HW HP HN HU H1 H2 HPE HXE HNE HA
        go_wp2_with fail
        go_region_with (go_at_call 139; refine (ru _ ?_).mono ?_; exact hc'; rintro e w2 ⟨rfl, rfl⟩)
        all_goals
          go_wp2_with fail
          go_meet
          case rel => exact ⟨HD.out.drew, HK.out.drew⟩
      · rcases HN.out with e0 | ⟨m, hm, hmi, e0⟩
        · exact absurd (HXE.out.symm.trans e0) hp1
        have e1 : nx = (m : Int) := HXE.out.symm.trans e0
        subst e1
        rw [HNE.out] at hm
        have e : st2 (st1 S.pl i) i = updL (st1 S.pl i) m { st1 S.pl i m with prev := pv } := by
          unfold st2
          rw [if_neg (by rw [HA.out.2.2]; exact hp1), HA.out.2.2, Int.toNat_natCast, HA.out.2.1]
        obtain ⟨-, t3, -, -, -⟩ := HY1.out.pcell (i := m) (by show m < S.n; rw [HNE.out]; exact hm)
        have f3 := HY1.out.fg (m * 22 + 13)
        have D := HY1.out.setPprev (i := m) (by show m < S.n; rw [HNE.out]; exact hm) pv
        have D1 : DY K (wc.setCell ⟨g, m * 22 + 13, none⟩ (.int .i64 pv)) p (S.setP (updL (st1 S.pl i) m { st1 S.pl i m with prev := pv })) (some ⟨g, 0, none⟩) cap := D.1
        rw [← e] at D1
        have HD : Hid (DY K (wc.setCell ⟨g, m * 22 + 13, none⟩ (.int .i64 pv)) p (S.setP (st2 (st1 S.pl i) i)) (some ⟨g, 0, none⟩) cap) := D1
        have HK : Hid (Kept K w' (wc.setCell ⟨g, m * 22 + 13, none⟩ (.int .i64 pv))) := HK1.out.trans D.2
        have rm := r1 m hm
        have hm0 : ((m : Int) == -1) = false := by simp
        clear D D1 e e0 HW HP HN HU H1 H2 HPE HXE HNE HA hp1
        go_wp2_with fail
        go_region_with (go_at_call 139; refine (rm _ ?_).mono ?_; exact hc'; rintro e w2 ⟨rfl, rfl⟩)
        all_goals
          go_wp2_with fail
          go_meet
          case rel => exact ⟨HD.out.drew, HK.out.drew⟩
    case rest =>
      obtain ⟨hY2, hK2⟩ := hcut
      obtain ⟨e0, e1, e2, -, -⟩ := hY2.pcell (i := i) hiS
      have f0 := hY2.fg (i * 22 + 12)
      have f1 := hY2.fg (i * 22 + 13)
      have f2 := hY2.fg (i * 22 + 14)
      have D1 := hY2.setPup (i := i) hiS (-1)
      have D2 := D1.1.setPprev (i := i) hiS (-1)
      have D3 := D2.1.setPnext (i := i) hiS (-1)
      have HK3 : Hid (Kept K w' (((wc.setCell ⟨g, i * 22 + 12, none⟩ (.int .i64 (-1))).setCell ⟨g, i * 22 + 13, none⟩ (.int .i64 (-1))).setCell ⟨g, i * 22 + 14, none⟩ (.int .i64 (-1)))) := hK2.trans (D1.2.trans (D2.2.trans D3.2))
      have HD3 := D3.1
      have eo : updL (updL (updL (st2 (st1 S.pl i) i) i { st2 (st1 S.pl i) i i with up := -1 }) i { updL (st2 (st1 S.pl i) i) i { st2 (st1 S.pl i) i i with up := -1 } i with prev := -1 }) i { updL (updL (st2 (st1 S.pl i) i) i { st2 (st1 S.pl i) i i with up := -1 }) i { updL (st2 (st1 S.pl i) i) i { st2 (st1 S.pl i) i i with up := -1 } i with prev := -1 } i with next := -1 } = outL S.pl i := by
        rw [updL_updL, updL_updL, updL_same, updL_same]
        exact st_out HU.out H1.out H2.out _ rfl
      replace HD3 : Hid (DY K (((wc.setCell ⟨g, i * 22 + 12, none⟩ (.int .i64 (-1))).setCell ⟨g, i * 22 + 13, none⟩ (.int .i64 (-1))).setCell ⟨g, i * 22 + 14, none⟩ (.int .i64 (-1))) p (S.setP (outL S.pl i)) (some ⟨g, 0, none⟩) cap) := by
        rw [← eo]
        exact HD3
      clear D1 D2 D3 hY2 hK2 eo HW HP HN HU H1 H2 HPE HXE HNE HA HY1 HK1 hc' d0 d1 d2
      go_wp2
      go_end0
      exact ⟨rfl, HD3.out, HK3.out⟩
end Go.Proofs.YtbhfnbplbkncmaaGreat

namespace Go.Proofs.YtbhfnbplbkncmaaGreat
open Go.RowKit
set_option linter.unusedVariables false
theorem DY.gcell {K : Nat → Prop} {w : World} {p : Nat} {S : Dm} {g : Nat} {cap : Nat} (h : DY K w p S (some ⟨g, 0, none⟩) cap) {i : Nat} (hi : i < S.n) :
    w.cell? ⟨g, i * 22 + 17, none⟩ = some (.int .i64 (S.gf i).up) ∧ w.cell? ⟨g, i * 22 + 18, none⟩ = some (.int .i64 (S.gf i).prev) ∧ w.cell? ⟨g, i * 22 + 19, none⟩ = some (.int .i64 (S.gf i).next) ∧ w.cell? ⟨g, i * 22 + 20, none⟩ = some (.int .i64 (S.gf i).first) ∧ w.cell? ⟨g, i * 22 + 21, none⟩ = some (.int .i64 (S.gf i).last) := by
  obtain ⟨aa, ac, hc, -⟩ := h.cell hi
  exact ⟨hc 17 _ rfl, hc 18 _ rfl, hc 19 _ rfl, hc 20 _ rfl, hc 21 _ rfl⟩
theorem setG_setG (S : Dm) (L L' : Nat → Lk) : (S.setG L).setG L' = S.setG L' := rfl

set_option maxRecDepth 20000 in
set_option maxHeartbeats 2000000 in
theorem takeOutG (K : Nat → Prop) (p g cap i : Nat) (S : Dm) (R : Nat → List Nat) (w : World) (h : DY K w p S (some ⟨g, 0, none⟩) cap) (hW : WF S.n S.gf R) (hi : i < S.n) (hn : S.n ≤ 1000000000) :
    Calls Tryz.prog 103 #[chG p, .int .i64 (i : Int)] w fun e w' => e = .returned (.tuple #[]) ∧ DY K w' p (S.setG (outL S.gf i)) (some ⟨g, 0, none⟩) cap ∧ Kept K w w' := by
  obtain ⟨n, hne⟩ : ∃ n, S.n = n := ⟨_, rfl⟩
  have r1 := fun (j : Nat) (hj : j < n) (X : World) (hX : X.cell? ⟨p, 1, none⟩ = some (.slice (some ⟨g, 0, none⟩) n cap)) => giftOf_any p g n cap j X hX hj (by omega)
  have hc := h.c1
  obtain ⟨c0, c1, c2, -, -⟩ := h.gcell hi
  have HY : Hid (DY K w p S (some ⟨g, 0, none⟩) cap) := h
  have HW : Hid (WF S.n S.gf R) := hW
  have HNE : Hid (S.n = n) := hne
  rw [hne] at hc hi
  rcases hW.inn i (by omega) with hup | ⟨u, hu, hup, -⟩
  · rw [hup] at c0
    have e : outL S.gf i = S.gf := if_pos hup
    rw [e]
    clear h hW hne hn hup e c1 c2
    have r := r1 i hi w hc
    clear r1
    go_enter Tryz.func103, Tryz.ntmps103
    go_wp2_with (go_at_call 189; refine r.mono ?_; rintro e w' ⟨rfl, rfl⟩)
    refine bodyPost_ret (results_none rfl _ _ _) rfl ?_
    exact ⟨rfl, HY.out, Kept.refl _ _⟩
  obtain ⟨hu', hpv, hnx⟩ := hW.prev_or (by omega) hup
  have HP : Hid ((S.gf i).prev = -1 ∨ ∃ m : Nat, m < S.n ∧ m ≠ i ∧ (S.gf i).prev = (m : Int)) := hpv
  have HN : Hid ((S.gf i).next = -1 ∨ ∃ m : Nat, m < S.n ∧ m ≠ i ∧ (S.gf i).next = (m : Int)) := hnx
  have HU : Hid ((S.gf i).up = (u : Int)) := hup
  have h1' : (S.gf i).prev = -1 ∨ ∃ m : Nat, m ≠ i ∧ (S.gf i).prev = (m : Int) := by
    rcases hpv with h | ⟨m, _, h1, h2⟩
    · exact .inl h
    · exact .inr ⟨m, h1, h2⟩
  have h2' : (S.gf i).next = -1 ∨ ∃ m : Nat, m ≠ i ∧ (S.gf i).next = (m : Int) := by
    rcases hnx with h | ⟨m, _, h1, h2⟩
    · exact .inl h
    · exact .inr ⟨m, h1, h2⟩
  have H1 : Hid ((S.gf i).prev = -1 ∨ ∃ m : Nat, m ≠ i ∧ (S.gf i).prev = (m : Int)) := h1'
  have H2 : Hid ((S.gf i).next = -1 ∨ ∃ m : Nat, m ≠ i ∧ (S.gf i).next = (m : Int)) := h2'
  rw [hup] at c0
  rw [hne] at hu'
  have hgp := h.gk.2.1
  have hu0 : ((u : Int) == -1) = false := by simp
  have ri := r1 i hi
  have ru := r1 u hu'
  obtain ⟨pv, hpe⟩ : ∃ z, (S.gf i).prev = z := ⟨_, rfl⟩
  obtain ⟨nx, hxe⟩ : ∃ z, (S.gf i).next = z := ⟨_, rfl⟩
  rw [hpe] at c1
  rw [hxe] at c2
  have HPE : Hid ((S.gf i).prev = pv) := hpe
  have HXE : Hid ((S.gf i).next = nx) := hxe
  clear h hW hne hn hup hu hpv hnx hpe hxe h1' h2'
  go_enter Tryz.func103, Tryz.ntmps103
  go_upto_if 17 with (go_at_call 189; refine (ri _ hc).mono ?_; rintro e w' ⟨rfl, rfl⟩)
  go_cut [] (fun wx => DY K wx p (S.setG (st1 S.gf i)) (some ⟨g, 0, none⟩) cap ∧ Kept K w' wx)
  case first =>
    by_cases hp1 : pv = -1
    · subst hp1
      have e : st1 S.gf i = updL S.gf u { S.gf u with first := nx } := by
        unfold st1
        rw [if_pos HPE.out, HU.out, Int.toNat_natCast, HXE.out]
      obtain ⟨-, -, -, t3, -⟩ := HY.out.gcell (i := u) (by rw [HNE.out]; exact hu')
      have f3 := HY.out.fg (u * 22 + 20)
      have D := HY.out.setGfirst (i := u) (by rw [HNE.out]; exact hu') nx
      rw [← e] at D
      have HD : Hid (DY K (w'.setCell ⟨g, u * 22 + 20, none⟩ (.int .i64 nx)) p (S.setG (st1 S.gf i)) (some ⟨g, 0, none⟩) cap) := D.1
      have HK : Hid (Kept K w' (w'.setCell ⟨g, u * 22 + 20, none⟩ (.int .i64 nx))) := D.2
      clear D e HW HP HN HU H1 H2 HPE HXE HNE
      go_wp2_with fail
      go_region_with (go_at_call 189; refine (ru _ ?_).mono ?_; exact hc; rintro e w2 ⟨rfl, rfl⟩)
      all_goals
        go_wp2_with fail
        go_meet
        case rel => exact ⟨HD.out.drew, HK.out.drew⟩
    · rcases HP.out with e0 | ⟨m, hm, hmi, e0⟩
      · exact absurd (HPE.out.symm.trans e0) hp1
      have e1 : pv = (m : Int) := HPE.out.symm.trans e0
      subst e1
      rw [HNE.out] at hm
      have e : st1 S.gf i = updL S.gf m { S.gf m with next := nx } := by
        unfold st1
        rw [if_neg (by rw [e0]; exact hp1), e0, Int.toNat_natCast, HXE.out]
      obtain ⟨-, -, t2, -, -⟩ := HY.out.gcell (i := m) (by rw [HNE.out]; exact hm)
      have f2 := HY.out.fg (m * 22 + 19)
      have D := HY.out.setGnext (i := m) (by rw [HNE.out]; exact hm) nx
      rw [← e] at D
      have HD : Hid (DY K (w'.setCell ⟨g, m * 22 + 19, none⟩ (.int .i64 nx)) p (S.setG (st1 S.gf i)) (some ⟨g, 0, none⟩) cap) := D.1
      have HK : Hid (Kept K w' (w'.setCell ⟨g, m * 22 + 19, none⟩ (.int .i64 nx))) := D.2
      have rm := r1 m hm
      have hm0 : ((m : Int) == -1) = false := by simp
      clear D e e0 HW HP HN HU H1 H2 HPE HXE HNE hp1
      go_wp2_with fail
      go_region_with (go_at_call 189; refine (rm _ ?_).mono ?_; exact hc; rintro e w2 ⟨rfl, rfl⟩)
      all_goals
        go_wp2_with fail
        go_meet
        case rel => exact ⟨HD.out.drew, HK.out.drew⟩
  case rest =>
    obtain ⟨hY1, hK1⟩ := hcut
    obtain ⟨a1, a2, a3⟩ := st1_at H1.out
    have hiS : i < S.n := by rw [HNE.out]; exact hi
    obtain ⟨d0, d1, d2, -, -⟩ := hY1.gcell (i := i) hiS
    have hc' := hY1.c1
    replace d0 : wc.cell? ⟨g, i * 22 + 17, none⟩ = some (.int .i64 (u : Int)) := by rw [← HU.out, ← a1]; exact d0
    replace d1 : wc.cell? ⟨g, i * 22 + 18, none⟩ = some (.int .i64 pv) := by rw [← HPE.out, ← a2]; exact d1
    replace d2 : wc.cell? ⟨g, i * 22 + 19, none⟩ = some (.int .i64 nx) := by rw [← HXE.out, ← a3]; exact d2
    replace hc' : wc.cell? ⟨p, 1, none⟩ = some (.slice (some ⟨g, 0, none⟩) n cap) := by rw [← HNE.out]; exact hc'
    have HY1 : Hid (DY K wc p (S.setG (st1 S.gf i)) (some ⟨g, 0, none⟩) cap) := hY1
    have HK1 : Hid (Kept K w' wc) := hK1
    have HA : Hid ((st1 S.gf i i).up = (u : Int) ∧ (st1 S.gf i i).prev = pv ∧ (st1 S.gf i i).next = nx) := ⟨a1.trans HU.out, a2.trans HPE.out, a3.trans HXE.out⟩
    clear hY1 hK1 a1 a2 a3 c0 c1 c2 hc HY
    go_upto_if 46 with fail
    go_cut [] (fun wx => DY K wx p (S.setG (st2 (st1 S.gf i) i)) (some ⟨g, 0, none⟩) cap ∧ Kept K w' wx)
    case first =>
      by_cases hp1 : nx = -1
      · subst hp1
        have e : st2 (st1 S.gf i) i = updL (st1 S.gf i) u { st1 S.gf i u with last := pv } := by
          unfold st2
          rw [if_pos HA.out.2.2, HA.out.1, Int.toNat_natCast, HA.out.2.1]
        obtain ⟨-, -, -, -, t3⟩ := HY1.out.gcell (i := u) (by show u < S.n; rw [HNE.out]; exact hu')
        have f3 := HY1.out.fg (u * 22 + 21)
        have D := HY1.out.setGlast (i := u) (by show u < S.n; rw [HNE.out]; exact hu') pv
        have D1 : DY K (wc.setCell ⟨g, u * 22 + 21, none⟩ (.int .i64 pv)) p (S.setG (updL (st1 S.gf i) u { st1 S.gf i u with last := pv })) (some ⟨g, 0, none⟩) cap := D.1
        rw [← e] at D1
        have HD : Hid (DY K (wc.setCell ⟨g, u * 22 + 21, none⟩ (.int .i64 pv)) p (S.setG (st2 (st1 S.gf i) i)) (some ⟨g, 0, none⟩) cap) := D1
        have HK : Hid (Kept K w' (wc.setCell ⟨g, u * 22 + 21, none⟩ (.int .i64 pv))) := HK1.out.trans D.2
        clear D D1 e HW HP HN HU H1 H2 HPE HXE HNE HA
        go_wp2_with fail
        go_region_with (go_at_call 189; refine (ru _ ?_).mono ?_; exact hc'; rintro e w2 ⟨rfl, rfl⟩)
        all_goals
          go_wp2_with fail
          go_meet
          case rel => exact ⟨HD.out.drew, HK.out.drew⟩
      · rcases HN.out with e0 | ⟨m, hm, hmi, e0⟩
        · exact absurd (HXE.out.symm.trans e0) hp1
        have e1 : nx = (m : Int) := HXE.out.symm.trans e0
        subst e1
        rw [HNE.out] at hm
        have e : st2 (st1 S.gf i) i = updL (st1 S.gf i) m { st1 S.gf i m with prev := pv } := by
          unfold st2
          rw [if_neg (by rw [HA.out.2.2]; exact hp1), HA.out.2.2, Int.toNat_natCast, HA.out.2.1]
        obtain ⟨-, t3, -, -, -⟩ := HY1.out.gcell (i := m) (by show m < S.n; rw [HNE.out]; exact hm)
        have f3 := HY1.out.fg (m * 22 + 18)
        have D := HY1.out.setGprev (i := m) (by show m < S.n; rw [HNE.out]; exact hm) pv
        have D1 : DY K (wc.setCell ⟨g, m * 22 + 18, none⟩ (.int .i64 pv)) p (S.setG (updL (st1 S.gf i) m { st1 S.gf i m with prev := pv })) (some ⟨g, 0, none⟩) cap := D.1
        rw [← e] at D1
        have HD : Hid (DY K (wc.setCell ⟨g, m * 22 + 18, none⟩ (.int .i64 pv)) p (S.setG (st2 (st1 S.gf i) i)) (some ⟨g, 0, none⟩) cap) := D1
        have HK : Hid (Kept K w' (wc.setCell ⟨g, m * 22 + 18, none⟩ (.int .i64 pv))) := HK1.out.trans D.2
        have rm := r1 m hm
        have hm0 : ((m : Int) == -1) = false := by simp
        clear D D1 e e0 HW HP HN HU H1 H2 HPE HXE HNE HA hp1
        go_wp2_with fail
        go_region_with (go_at_call 189; refine (rm _ ?_).mono ?_; exact hc'; rintro e w2 ⟨rfl, rfl⟩)
        all_goals
          go_wp2_with fail
          go_meet
          case rel => exact ⟨HD.out.drew, HK.out.drew⟩
    case rest =>
      obtain ⟨hY2, hK2⟩ := hcut
      obtain ⟨e0, e1, e2, -, -⟩ := hY2.gcell (i := i) hiS
      have f0 := hY2.fg (i * 22 + 17)
      have f1 := hY2.fg (i * 22 + 18)
      have f2 := hY2.fg (i * 22 + 19)
      have D1 := hY2.setGup (i := i) hiS (-1)
      have D2 := D1.1.setGprev (i := i) hiS (-1)
      have D3 := D2.1.setGnext (i := i) hiS (-1)
      have HK3 : Hid (Kept K w' (((wc.setCell ⟨g, i * 22 + 17, none⟩ (.int .i64 (-1))).setCell ⟨g, i * 22 + 18, none⟩ (.int .i64 (-1))).setCell ⟨g, i * 22 + 19, none⟩ (.int .i64 (-1)))) := hK2.trans (D1.2.trans (D2.2.trans D3.2))
      have HD3 := D3.1
      have eo : updL (updL (updL (st2 (st1 S.gf i) i) i { st2 (st1 S.gf i) i i with up := -1 }) i { updL (st2 (st1 S.gf i) i) i { st2 (st1 S.gf i) i i with up := -1 } i with prev := -1 }) i { updL (updL (st2 (st1 S.gf i) i) i { st2 (st1 S.gf i) i i with up := -1 }) i { updL (st2 (st1 S.gf i) i) i { st2 (st1 S.gf i) i i with up := -1 } i with prev := -1 } i with next := -1 } = outL S.gf i := by
        rw [updL_updL, updL_updL, updL_same, updL_same]
        exact st_out HU.out H1.out H2.out _ rfl
      replace HD3 : Hid (DY K (((wc.setCell ⟨g, i * 22 + 17, none⟩ (.int .i64 (-1))).setCell ⟨g, i * 22 + 18, none⟩ (.int .i64 (-1))).setCell ⟨g, i * 22 + 19, none⟩ (.int .i64 (-1))) p (S.setG (outL S.gf i)) (some ⟨g, 0, none⟩) cap) := by
        rw [← eo]
        exact HD3
      clear D1 D2 D3 hY2 hK2 eo HW HP HN HU H1 H2 HPE HXE HNE HA HY1 HK1 hc' d0 d1 d2
      go_wp2
      go_end0
      exact ⟨rfl, HD3.out, HK3.out⟩
end Go.Proofs.YtbhfnbplbkncmaaGreat

namespace Go.Proofs.YtbhfnbplbkncmaaGreat
open Go.RowKit
set_option linter.unusedVariables false

def putL (L : Nat → Lk) (up i : Nat) (bef : Int) : Nat → Lk := inL (outL L i) up i bef (befP (outL L i) up bef)
/-- Where i may be put in up's row. -/
def BefOk (n : Nat) (L : Nat → Lk) (up i : Nat) (bef : Int) : Prop := bef = -1 ∨ ∃ m : Nat, m < n ∧ m ≠ i ∧ bef = (m : Int) ∧ (L m).up = (up : Int)
theorem out_upne {L : Nat → Lk} {i k : Nat} (h : k ≠ i) : (outL L i k).up = (L k).up := by
  unfold outL
  by_cases c : (L i).up = -1
  · rw [if_pos c]
  · rw [if_neg c]; dsimp only; rw [if_neg h]
theorem put_at {n : Nat} {L : Nat → Lk} {R : Nat → List Nat} (h : WF n L R) {up i : Nat} (hu : up < n) (hi : i < n) {bef : Int} (hb : BefOk n L up i bef) : ∃ a b, At (outR L R i up) bef a b := by
  rcases hb with hb | ⟨m, hm, hmi, rfl, hmu⟩
  · exact ⟨_, _, .last hb⟩
  · rcases (h.out hi).inn m hm with h0 | ⟨v, hv, h1, h2⟩
    · rw [out_upne hmi] at h0; omega
    · rw [out_upne hmi] at h1
      have : v = up := by omega
      subst this
      obtain ⟨a, b, e⟩ := mem_split h2
      exact ⟨a, m :: b, .mid rfl e⟩
theorem WF.putOk {n : Nat} {L : Nat → Lk} {R : Nat → List Nat} (h : WF n L R) {up i : Nat} (hu : up < n) (hi : i < n) {bef : Int} {a b : List Nat} (ha : At (outR L R i up) bef a b) : WF n (putL L up i bef) (updR (outR L R i) up (a ++ i :: b)) :=
  (h.out hi).put hu hi out_up ha
/-- What stands ahead of the place. -/
theorem befP_or {n : Nat} {L : Nat → Lk} {R : Nat → List Nat} (h : WF n L R) {up i : Nat} (hu : up < n) (hi : i < n) {bef : Int} (hb : BefOk n L up i bef) : befP (outL L i) up bef = -1 ∨ ∃ q : Nat, q < n ∧ q ≠ i ∧ befP (outL L i) up bef = (q : Int) := by
  obtain ⟨a, b, ha⟩ := put_at h hu hi hb
  rw [befP_at (h.out hi) hu ha]
  rcases lsD_or a with ⟨-, e⟩ | ⟨m, m1, e⟩
  · exact .inl e
  · have hm : m ∈ outR L R i up := by rw [ha.eq]; exact List.mem_append_left _ m1
    exact .inr ⟨m, (h.out hi).lt up hu m hm, fun e' => outR_notin h hi hu (e' ▸ hm), e⟩
def in1 (L : Nat → Lk) (up i : Nat) (bef : Int) : Nat → Lk := updL L i { L i with up := (up : Int), next := bef }
def in2 (L : Nat → Lk) (up i : Nat) (bef P : Int) : Nat → Lk := updL (in1 L up i bef) i { in1 L up i bef i with prev := P }
def in3 (L : Nat → Lk) (up i : Nat) (bef P : Int) : Nat → Lk := if bef = -1 then updL (in2 L up i bef P) up { in2 L up i bef P up with last := (i : Int) } else updL (in2 L up i bef P) bef.toNat { in2 L up i bef P bef.toNat with prev := (i : Int) }
def in4 (L : Nat → Lk) (up i : Nat) (bef P : Int) : Nat → Lk := if P = -1 then updL (in3 L up i bef P) up { in3 L up i bef P up with first := (i : Int) } else updL (in3 L up i bef P) P.toNat { in3 L up i bef P P.toNat with next := (i : Int) }
theorem in2_eq (L : Nat → Lk) (up i : Nat) (bef P : Int) : in2 L up i bef P = updL L i ⟨(up : Int), P, bef, (L i).first, (L i).last⟩ := by
  unfold in2 in1
  rw [updL_updL, updL_same]
theorem in3_at {L : Nat → Lk} {up i : Nat} {bef P : Int} (hui : up ≠ i) (hb : bef = -1 ∨ ∃ m : Nat, m ≠ i ∧ bef = (m : Int)) : in3 L up i bef P i = ⟨(up : Int), P, bef, (L i).first, (L i).last⟩ := by
  unfold in3
  rw [in2_eq]
  rcases hb with hb | ⟨m, hm, rfl⟩
  · rw [if_pos hb, updL_ne _ _ (fun e => hui e.symm), updL_same]
  · rw [if_neg (by omega), Int.toNat_natCast, updL_ne _ _ (fun e => hm e.symm), updL_same]
theorem in4_eq {L : Nat → Lk} {up i : Nat} {bef P : Int} (hui : up ≠ i) (hb : bef = -1 ∨ ∃ m : Nat, m ≠ i ∧ bef = (m : Int)) (hP : P = -1 ∨ ∃ q : Nat, q ≠ i ∧ P = (q : Int)) : in4 L up i bef P = inL L up i bef P := by
  funext k
  unfold in4 in3 inL
  rw [in2_eq]
  have e1 : ¬ ((k : Int) = -1) := by omega
  rcases hb with rfl | ⟨m, hm, rfl⟩ <;> rcases hP with rfl | ⟨q, hq, rfl⟩ <;> unfold updL
  · by_cases c : k = i
    · subst c
      have : ¬ k = up := fun e => hui e.symm
      simp [*]
    · by_cases c' : k = up
      · subst c'; simp [*]
      · simp [*]
  · have e2 : ¬ ((q : Int) = -1) := by omega
    by_cases c : k = i
    · subst c
      have : ¬ k = up := fun e => hui e.symm
      have : ¬ k = q := fun e => hq e.symm
      simp [*]
    · by_cases c' : k = up
      · subst c'
        by_cases c2 : k = q
        · subst c2; simp [*]
        · have : ¬ (k : Int) = (q : Int) := by omega
          simp [*]
      · by_cases c2 : k = q
        · subst c2; simp [*]
        · have : ¬ (k : Int) = (q : Int) := by omega
          simp [*]
  · have e2 : ¬ ((m : Int) = -1) := by omega
    by_cases c : k = i
    · subst c
      have : ¬ k = up := fun e => hui e.symm
      have : ¬ k = m := fun e => hm e.symm
      simp [*]
    · by_cases c' : k = up
      · subst c'
        by_cases c2 : k = m
        · subst c2; simp [*]
        · have : ¬ (k : Int) = (m : Int) := by omega
          simp [*]
      · by_cases c2 : k = m
        · subst c2; simp [*]
        · have : ¬ (k : Int) = (m : Int) := by omega
          simp [*]
  · have e2 : ¬ ((m : Int) = -1) := by omega
    have e3 : ¬ ((q : Int) = -1) := by omega
    by_cases c : k = i
    · subst c
      have : ¬ k = q := fun e => hq e.symm
      have : ¬ k = m := fun e => hm e.symm
      simp [*]
    · by_cases c' : k = q
      · subst c'
        by_cases c2 : k = m
        · subst c2; simp [*]
        · have : ¬ (k : Int) = (m : Int) := by omega
          simp [*]
      · have : ¬ (k : Int) = (q : Int) := by omega
        by_cases c2 : k = m
        · subst c2; simp [*]
        · have : ¬ (k : Int) = (m : Int) := by omega
          simp [*]

set_option maxRecDepth 20000 in
set_option maxHeartbeats 2000000 in
theorem putP (K : Nat → Prop) (p g cap up i : Nat) (bef : Int) (S : Dm) (R : Nat → List Nat) (w : World) (h : DY K w p S (some ⟨g, 0, none⟩) cap) (hW : WF S.n S.pl R) (hu : up < S.n) (hi : i < S.n) (hui : up ≠ i) (hb : BefOk S.n S.pl up i bef) (hn : S.n ≤ 1000000000) :
    Calls Tryz.prog 146 #[chP p, .int .i64 (up : Int), .int .i64 (i : Int), .int .i64 bef] w fun e w' => e = .returned (.tuple #[]) ∧ DY K w' p (S.setP (putL S.pl up i bef)) (some ⟨g, 0, none⟩) cap ∧ Kept K w w' := by
  obtain ⟨n, hne⟩ : ∃ n, S.n = n := ⟨_, rfl⟩
  have rt := takeOutP K p g cap i S R w h hW hi hn
  have hPo := befP_or hW hu hi hb
  obtain ⟨L, hL⟩ : ∃ L, outL S.pl i = L := ⟨_, rfl⟩
  have hput : putL S.pl up i bef = inL L up i bef (befP L up bef) := by rw [← hL]; rfl
  rw [hput]
  rw [hL] at rt hPo
  obtain ⟨P, hP⟩ : ∃ P, befP L up bef = P := ⟨_, rfl⟩
  rw [hP] at hPo ⊢
  have hb' : bef = -1 ∨ ∃ m : Nat, m < n ∧ m ≠ i ∧ bef = (m : Int) := by
    rw [← hne]
    rcases hb with hb | ⟨m, h1, h2, h3, _⟩
    · exact .inl hb
    · exact .inr ⟨m, h1, h2, h3⟩
  have hb2 : bef = -1 ∨ ∃ m : Nat, m ≠ i ∧ bef = (m : Int) := by
    rcases hb' with hb | ⟨m, _, h2, h3⟩
    · exact .inl hb
    · exact .inr ⟨m, h2, h3⟩
  have hP2 : P = -1 ∨ ∃ q : Nat, q ≠ i ∧ P = (q : Int) := by
    rcases hPo with hb | ⟨m, _, h2, h3⟩
    · exact .inl hb
    · exact .inr ⟨m, h2, h3⟩
  have hin4 := in4_eq (L := L) hui hb2 hP2
  have hin3 := in3_at (L := L) (P := P) hui hb2
  rw [← hin4]
  rw [hne] at hPo hu hi
  have r1 := fun (j : Nat) (hj : j < n) (X : World) (hX : X.cell? ⟨p, 1, none⟩ = some (.slice (some ⟨g, 0, none⟩) n cap)) => placeOf_any p g n cap j X hX hj (by omega)
  have ri := r1 i hi
  have ru := r1 up hu
  have hgp := h.gk.2.1
  have HNE : Hid (S.n = n) := hne
  have HP : Hid (befP L up bef = P) := hP
  have HPO : Hid (P = -1 ∨ ∃ q : Nat, q < n ∧ q ≠ i ∧ P = (q : Int)) := hPo
  have HB : Hid (bef = -1 ∨ ∃ m : Nat, m < n ∧ m ≠ i ∧ bef = (m : Int)) := hb'
  have H3 : Hid (in3 L up i bef P i = ⟨(up : Int), P, bef, (L i).first, (L i).last⟩) := hin3
  clear h hW hL hput hP hne hPo hb' hb hb2 hP2 hin4 hin3
  go_enter Tryz.func146, Tryz.ntmps146
  go_wp2_with fail
  refine rt.mono ?_
  rintro e w1 ⟨rfl, hY1, hK1⟩
  clear rt
  have hiS : i < (S.setP L).n := by show i < S.n; rw [HNE.out]; exact hi
  have huS : up < (S.setP L).n := by show up < S.n; rw [HNE.out]; exact hu
  have c1 : w1.cell? ⟨p, 1, none⟩ = some (.slice (some ⟨g, 0, none⟩) n cap) := by have := hY1.c1; rw [show (S.setP L).n = n from HNE.out] at this; exact this
  obtain ⟨a0, a1, a2, -, -⟩ := hY1.pcell hiS
  have f0 := hY1.fg (i * 22 + 12)
  have f2 := hY1.fg (i * 22 + 14)
  have D1 := hY1.setPup hiS (up : Int)
  have D2 := D1.1.setPnext hiS bef
  have e1 : updL (updL L i { L i with up := (up : Int) }) i { updL L i { L i with up := (up : Int) } i with next := bef } = in1 L up i bef := by
    rw [updL_updL, updL_same]; rfl
  have D2' : DY K ((w1.setCell ⟨g, i * 22 + 12, none⟩ (.int .i64 (up : Int))).setCell ⟨g, i * 22 + 14, none⟩ (.int .i64 bef)) p (S.setP (in1 L up i bef)) (some ⟨g, 0, none⟩) cap := by rw [← e1]; exact D2.1
  have kk := hK1.trans (D1.2.trans D2.2)
  obtain ⟨W1, hW1⟩ : ∃ W1, ((w1.setCell ⟨g, i * 22 + 12, none⟩ (.int .i64 (up : Int))).setCell ⟨g, i * 22 + 14, none⟩ (.int .i64 bef)) = W1 := ⟨_, rfl⟩
  rw [hW1] at D2' kk
  have HW1 : Hid (((w1.setCell ⟨g, i * 22 + 12, none⟩ (.int .i64 (up : Int))).setCell ⟨g, i * 22 + 14, none⟩ (.int .i64 bef)) = W1) := hW1
  have HY2 : Hid (DY K W1 p (S.setP (in1 L up i bef)) (some ⟨g, 0, none⟩) cap) := D2'
  have HK2 : Hid (Kept K w W1) := kk
  clear hY1 hK1 D1 D2 D2' e1 hW1 kk
  go_upto_if 24 with (go_at_call 139; refine (ri _ ?_).mono ?_; exact c1; rintro e w2 ⟨rfl, rfl⟩)
  rw [HW1.out]
  clear HW1 a0 a1 a2 f0 f2 c1
  have c1 : W1.cell? ⟨p, 1, none⟩ = some (.slice (some ⟨g, 0, none⟩) n cap) := by have := HY2.out.c1; rw [show (S.setP (in1 L up i bef)).n = n from HNE.out] at this; exact this
  go_cut [] (fun wx => DY K wx p (S.setP (in3 L up i bef P)) (some ⟨g, 0, none⟩) cap ∧ Kept K w wx)
  case first =>
    by_cases hb1 : bef = -1
    · subst hb1
      have eP : (in1 L up i (-1) up).last = P := by
        unfold in1
        rw [updL_ne _ _ hui, ← HP.out]; rfl
      obtain ⟨-, -, -, -, t4⟩ := HY2.out.pcell (i := up) huS
      replace t4 : W1.cell? ⟨g, up * 22 + 16, none⟩ = some (.int .i64 P) := by rw [← eP]; exact t4
      obtain ⟨-, t1, -, -, -⟩ := HY2.out.pcell (i := i) hiS
      have D1 := HY2.out.setPprev (i := i) hiS P
      have f1 := HY2.out.fg (i * 22 + 13)
      have f2 := D1.1.fg (up * 22 + 16)
      have D2 := D1.1.setPlast (i := up) huS (i : Int)
      obtain ⟨-, -, -, -, t5⟩ := D1.1.pcell (i := up) huS
      have c2 : (W1.setCell ⟨g, i * 22 + 13, none⟩ (.int .i64 P)).cell? ⟨p, 1, none⟩ = some (.slice (some ⟨g, 0, none⟩) n cap) := by
        rw [World.cell?_setCell_other _ _ _ _ (fun e => by injection e with e1; exact hgp e1)]; exact c1
      have HD : Hid (DY K ((W1.setCell ⟨g, i * 22 + 13, none⟩ (.int .i64 P)).setCell ⟨g, up * 22 + 16, none⟩ (.int .i64 (i : Int))) p (S.setP (in3 L up i (-1) P)) (some ⟨g, 0, none⟩) cap) := D2.1
      have HK : Hid (Kept K w ((W1.setCell ⟨g, i * 22 + 13, none⟩ (.int .i64 P)).setCell ⟨g, up * 22 + 16, none⟩ (.int .i64 (i : Int)))) := HK2.out.trans (D1.2.trans D2.2)
      clear D1 D2 eP HP HPO HB H3 HNE
      go_wp2_with (first | (go_at_call 139; refine (ru _ ?_).mono ?_; exact c1; rintro e w2 ⟨rfl, hw2⟩; subst hw2) | (go_at_call 139; refine (ru _ ?_).mono ?_; exact c2; rintro e w2 ⟨rfl, hw2⟩; subst hw2))
      go_meet
      case rel => exact ⟨HD.out, HK.out⟩
    · rcases HB.out with e0 | ⟨m, hm, hmi, e0⟩
      · exact absurd e0 hb1
      subst e0
      have eb : ¬ ((m : Int) = -1) := hb1
      have hmS : m < (S.setP L).n := by show m < S.n; rw [HNE.out]; exact hm
      have eP : (in1 L up i (m : Int) m).prev = P := by
        unfold in1
        rw [updL_ne _ _ hmi, ← HP.out]
        unfold befP
        rw [if_neg eb, Int.toNat_natCast]
      obtain ⟨-, t4, -, -, -⟩ := HY2.out.pcell (i := m) hmS
      replace t4 : W1.cell? ⟨g, m * 22 + 13, none⟩ = some (.int .i64 P) := by rw [← eP]; exact t4
      obtain ⟨-, t1, -, -, -⟩ := HY2.out.pcell (i := i) hiS
      have D1 := HY2.out.setPprev (i := i) hiS P
      have f1 := HY2.out.fg (i * 22 + 13)
      have f2 := D1.1.fg (m * 22 + 13)
      have D2 := D1.1.setPprev (i := m) hmS (i : Int)
      obtain ⟨-, t5, -, -, -⟩ := D1.1.pcell (i := m) hmS
      have c2 : (W1.setCell ⟨g, i * 22 + 13, none⟩ (.int .i64 P)).cell? ⟨p, 1, none⟩ = some (.slice (some ⟨g, 0, none⟩) n cap) := by
        rw [World.cell?_setCell_other _ _ _ _ (fun e => by injection e with e1; exact hgp e1)]; exact c1
      have e3 : in3 L up i (m : Int) P = updL (in2 L up i (m : Int) P) m { in2 L up i (m : Int) P m with prev := (i : Int) } := by
        unfold in3
        rw [if_neg eb, Int.toNat_natCast]
      have HD : Hid (DY K ((W1.setCell ⟨g, i * 22 + 13, none⟩ (.int .i64 P)).setCell ⟨g, m * 22 + 13, none⟩ (.int .i64 (i : Int))) p (S.setP (in3 L up i (m : Int) P)) (some ⟨g, 0, none⟩) cap) := by rw [e3]; exact D2.1
      have HK : Hid (Kept K w ((W1.setCell ⟨g, i * 22 + 13, none⟩ (.int .i64 P)).setCell ⟨g, m * 22 + 13, none⟩ (.int .i64 (i : Int)))) := HK2.out.trans (D1.2.trans D2.2)
      have hm0 : ((m : Int) == -1) = false := by simp
      have rm := r1 m hm
      clear D1 D2 eP HP HPO HB H3 HNE e3 hb1
      go_wp2_with (first | (go_at_call 139; refine (rm _ ?_).mono ?_; exact c1; rintro e w2 ⟨rfl, hw2⟩; subst hw2) | (go_at_call 139; refine (rm _ ?_).mono ?_; exact c2; rintro e w2 ⟨rfl, hw2⟩; subst hw2))
      go_meet
      case rel => exact ⟨HD.out, HK.out⟩
  case rest =>
    obtain ⟨hY3, hK3⟩ := hcut
    clear c1 HY2 HK2
    have c1 : wc.cell? ⟨p, 1, none⟩ = some (.slice (some ⟨g, 0, none⟩) n cap) := by have := hY3.c1; rw [show (S.setP (in3 L up i bef P)).n = n from HNE.out] at this; exact this
    obtain ⟨-, t1, -, -, -⟩ := hY3.pcell (i := i) hiS
    replace t1 : wc.cell? ⟨g, i * 22 + 13, none⟩ = some (.int .i64 P) := by
      rw [show (S.setP (in3 L up i bef P)).pl i = in3 L up i bef P i from rfl, H3.out] at t1
      exact t1
    by_cases hP1 : P = -1
    · subst hP1
      obtain ⟨-, -, -, t3, -⟩ := hY3.pcell (i := up) huS
      have f3 := hY3.fg (up * 22 + 15)
      have D := hY3.setPfirst (i := up) huS (i : Int)
      have HD : Hid (DY K (wc.setCell ⟨g, up * 22 + 15, none⟩ (.int .i64 (i : Int))) p (S.setP (in4 L up i bef (-1))) (some ⟨g, 0, none⟩) cap) := D.1
      have HK : Hid (Kept K w (wc.setCell ⟨g, up * 22 + 15, none⟩ (.int .i64 (i : Int)))) := hK3.trans D.2
      clear D hY3 hK3 HP HPO HB H3 HNE
      go_wp2_with (go_at_call 139; refine (ru _ ?_).mono ?_; exact c1; rintro e w2 ⟨rfl, hw2⟩; subst hw2)
      go_end0
      exact ⟨rfl, HD.out, HK.out⟩
    · rcases HPO.out with e0 | ⟨q, hq, hqi, e0⟩
      · exact absurd e0 hP1
      subst e0
      have eb : ¬ ((q : Int) = -1) := hP1
      have hqS : q < (S.setP L).n := by show q < S.n; rw [HNE.out]; exact hq
      obtain ⟨-, -, t3, -, -⟩ := hY3.pcell (i := q) hqS
      have f3 := hY3.fg (q * 22 + 14)
      have D := hY3.setPnext (i := q) hqS (i : Int)
      have e4 : in4 L up i bef (q : Int) = updL (in3 L up i bef (q : Int)) q { in3 L up i bef (q : Int) q with next := (i : Int) } := by
        unfold in4
        rw [if_neg eb, Int.toNat_natCast]
      have HD : Hid (DY K (wc.setCell ⟨g, q * 22 + 14, none⟩ (.int .i64 (i : Int))) p (S.setP (in4 L up i bef (q : Int))) (some ⟨g, 0, none⟩) cap) := by rw [e4]; exact D.1
      have HK : Hid (Kept K w (wc.setCell ⟨g, q * 22 + 14, none⟩ (.int .i64 (i : Int)))) := hK3.trans D.2
      have hq0 : ((q : Int) == -1) = false := by simp
      have rq := r1 q hq
      clear D hY3 hK3 HP HPO HB H3 HNE e4 hP1
      go_wp2_with (go_at_call 139; refine (rq _ ?_).mono ?_; exact c1; rintro e w2 ⟨rfl, hw2⟩; subst hw2)
      go_end0
      exact ⟨rfl, HD.out, HK.out⟩
end Go.Proofs.YtbhfnbplbkncmaaGreat

namespace Go.Proofs.YtbhfnbplbkncmaaGreat
open Go.RowKit
set_option linter.unusedVariables false
set_option maxRecDepth 20000 in
set_option maxHeartbeats 2000000 in
theorem putG (K : Nat → Prop) (p g cap up i : Nat) (bef : Int) (S : Dm) (R : Nat → List Nat) (w : World) (h : DY K w p S (some ⟨g, 0, none⟩) cap) (hW : WF S.n S.gf R) (hu : up < S.n) (hi : i < S.n) (hui : up ≠ i) (hb : BefOk S.n S.gf up i bef) (hn : S.n ≤ 1000000000) :
    Calls Tryz.prog 146 #[chG p, .int .i64 (up : Int), .int .i64 (i : Int), .int .i64 bef] w fun e w' => e = .returned (.tuple #[]) ∧ DY K w' p (S.setG (putL S.gf up i bef)) (some ⟨g, 0, none⟩) cap ∧ Kept K w w' := by
  obtain ⟨n, hne⟩ : ∃ n, S.n = n := ⟨_, rfl⟩
  have rt := takeOutG K p g cap i S R w h hW hi hn
  have hPo := befP_or hW hu hi hb
  obtain ⟨L, hL⟩ : ∃ L, outL S.gf i = L := ⟨_, rfl⟩
  have hput : putL S.gf up i bef = inL L up i bef (befP L up bef) := by rw [← hL]; rfl
  rw [hput]
  rw [hL] at rt hPo
  obtain ⟨P, hP⟩ : ∃ P, befP L up bef = P := ⟨_, rfl⟩
  rw [hP] at hPo ⊢
  have hb' : bef = -1 ∨ ∃ m : Nat, m < n ∧ m ≠ i ∧ bef = (m : Int) := by
    rw [← hne]
    rcases hb with hb | ⟨m, h1, h2, h3, _⟩
    · exact .inl hb
    · exact .inr ⟨m, h1, h2, h3⟩
  have hb2 : bef = -1 ∨ ∃ m : Nat, m ≠ i ∧ bef = (m : Int) := by
    rcases hb' with hb | ⟨m, _, h2, h3⟩
    · exact .inl hb
    · exact .inr ⟨m, h2, h3⟩
  have hP2 : P = -1 ∨ ∃ q : Nat, q ≠ i ∧ P = (q : Int) := by
    rcases hPo with hb | ⟨m, _, h2, h3⟩
    · exact .inl hb
    · exact .inr ⟨m, h2, h3⟩
  have hin4 := in4_eq (L := L) hui hb2 hP2
  have hin3 := in3_at (L := L) (P := P) hui hb2
  rw [← hin4]
  rw [hne] at hPo hu hi
  have r1 := fun (j : Nat) (hj : j < n) (X : World) (hX : X.cell? ⟨p, 1, none⟩ = some (.slice (some ⟨g, 0, none⟩) n cap)) => giftOf_any p g n cap j X hX hj (by omega)
  have ri := r1 i hi
  have ru := r1 up hu
  have hgp := h.gk.2.1
  have HNE : Hid (S.n = n) := hne
  have HP : Hid (befP L up bef = P) := hP
  have HPO : Hid (P = -1 ∨ ∃ q : Nat, q < n ∧ q ≠ i ∧ P = (q : Int)) := hPo
  have HB : Hid (bef = -1 ∨ ∃ m : Nat, m < n ∧ m ≠ i ∧ bef = (m : Int)) := hb'
  have H3 : Hid (in3 L up i bef P i = ⟨(up : Int), P, bef, (L i).first, (L i).last⟩) := hin3
  clear h hW hL hput hP hne hPo hb' hb hb2 hP2 hin4 hin3
  go_enter Tryz.func146, Tryz.ntmps146
  go_wp2_with fail
  refine rt.mono ?_
  rintro e w1 ⟨rfl, hY1, hK1⟩
  clear rt
  have hiS : i < (S.setG L).n := by show i < S.n; rw [HNE.out]; exact hi
  have huS : up < (S.setG L).n := by show up < S.n; rw [HNE.out]; exact hu
  have c1 : w1.cell? ⟨p, 1, none⟩ = some (.slice (some ⟨g, 0, none⟩) n cap) := by have := hY1.c1; rw [show (S.setG L).n = n from HNE.out] at this; exact this
  obtain ⟨a0, a1, a2, -, -⟩ := hY1.gcell hiS
  have f0 := hY1.fg (i * 22 + 17)
  have f2 := hY1.fg (i * 22 + 19)
  have D1 := hY1.setGup hiS (up : Int)
  have D2 := D1.1.setGnext hiS bef
  have e1 : updL (updL L i { L i with up := (up : Int) }) i { updL L i { L i with up := (up : Int) } i with next := bef } = in1 L up i bef := by
    rw [updL_updL, updL_same]; rfl
  have D2' : DY K ((w1.setCell ⟨g, i * 22 + 17, none⟩ (.int .i64 (up : Int))).setCell ⟨g, i * 22 + 19, none⟩ (.int .i64 bef)) p (S.setG (in1 L up i bef)) (some ⟨g, 0, none⟩) cap := by rw [← e1]; exact D2.1
  have kk := hK1.trans (D1.2.trans D2.2)
  obtain ⟨W1, hW1⟩ : ∃ W1, ((w1.setCell ⟨g, i * 22 + 17, none⟩ (.int .i64 (up : Int))).setCell ⟨g, i * 22 + 19, none⟩ (.int .i64 bef)) = W1 := ⟨_, rfl⟩
  rw [hW1] at D2' kk
  have HW1 : Hid (((w1.setCell ⟨g, i * 22 + 17, none⟩ (.int .i64 (up : Int))).setCell ⟨g, i * 22 + 19, none⟩ (.int .i64 bef)) = W1) := hW1
  have HY2 : Hid (DY K W1 p (S.setG (in1 L up i bef)) (some ⟨g, 0, none⟩) cap) := D2'
  have HK2 : Hid (Kept K w W1) := kk
  clear hY1 hK1 D1 D2 D2' e1 hW1 kk
  go_upto_if 24 with (go_at_call 189; refine (ri _ ?_).mono ?_; exact c1; rintro e w2 ⟨rfl, rfl⟩)
  rw [HW1.out]
  clear HW1 a0 a1 a2 f0 f2 c1
  have c1 : W1.cell? ⟨p, 1, none⟩ = some (.slice (some ⟨g, 0, none⟩) n cap) := by have := HY2.out.c1; rw [show (S.setG (in1 L up i bef)).n = n from HNE.out] at this; exact this
  go_cut [] (fun wx => DY K wx p (S.setG (in3 L up i bef P)) (some ⟨g, 0, none⟩) cap ∧ Kept K w wx)
  case first =>
    by_cases hb1 : bef = -1
    · subst hb1
      have eP : (in1 L up i (-1) up).last = P := by
        unfold in1
        rw [updL_ne _ _ hui, ← HP.out]; rfl
      obtain ⟨-, -, -, -, t4⟩ := HY2.out.gcell (i := up) huS
      replace t4 : W1.cell? ⟨g, up * 22 + 21, none⟩ = some (.int .i64 P) := by rw [← eP]; exact t4
      obtain ⟨-, t1, -, -, -⟩ := HY2.out.gcell (i := i) hiS
      have D1 := HY2.out.setGprev (i := i) hiS P
      have f1 := HY2.out.fg (i * 22 + 18)
      have f2 := D1.1.fg (up * 22 + 21)
      have D2 := D1.1.setGlast (i := up) huS (i : Int)
      obtain ⟨-, -, -, -, t5⟩ := D1.1.gcell (i := up) huS
      have c2 : (W1.setCell ⟨g, i * 22 + 18, none⟩ (.int .i64 P)).cell? ⟨p, 1, none⟩ = some (.slice (some ⟨g, 0, none⟩) n cap) := by
        rw [World.cell?_setCell_other _ _ _ _ (fun e => by injection e with e1; exact hgp e1)]; exact c1
      have HD : Hid (DY K ((W1.setCell ⟨g, i * 22 + 18, none⟩ (.int .i64 P)).setCell ⟨g, up * 22 + 21, none⟩ (.int .i64 (i : Int))) p (S.setG (in3 L up i (-1) P)) (some ⟨g, 0, none⟩) cap) := D2.1
      have HK : Hid (Kept K w ((W1.setCell ⟨g, i * 22 + 18, none⟩ (.int .i64 P)).setCell ⟨g, up * 22 + 21, none⟩ (.int .i64 (i : Int)))) := HK2.out.trans (D1.2.trans D2.2)
      clear D1 D2 eP HP HPO HB H3 HNE
      go_wp2_with (first | (go_at_call 189; refine (ru _ ?_).mono ?_; exact c1; rintro e w2 ⟨rfl, hw2⟩; subst hw2) | (go_at_call 189; refine (ru _ ?_).mono ?_; exact c2; rintro e w2 ⟨rfl, hw2⟩; subst hw2))
      go_meet
      case rel => exact ⟨HD.out, HK.out⟩
    · rcases HB.out with e0 | ⟨m, hm, hmi, e0⟩
      · exact absurd e0 hb1
      subst e0
      have eb : ¬ ((m : Int) = -1) := hb1
      have hmS : m < (S.setG L).n := by show m < S.n; rw [HNE.out]; exact hm
      have eP : (in1 L up i (m : Int) m).prev = P := by
        unfold in1
        rw [updL_ne _ _ hmi, ← HP.out]
        unfold befP
        rw [if_neg eb, Int.toNat_natCast]
      obtain ⟨-, t4, -, -, -⟩ := HY2.out.gcell (i := m) hmS
      replace t4 : W1.cell? ⟨g, m * 22 + 18, none⟩ = some (.int .i64 P) := by rw [← eP]; exact t4
      obtain ⟨-, t1, -, -, -⟩ := HY2.out.gcell (i := i) hiS
      have D1 := HY2.out.setGprev (i := i) hiS P
      have f1 := HY2.out.fg (i * 22 + 18)
      have f2 := D1.1.fg (m * 22 + 18)
      have D2 := D1.1.setGprev (i := m) hmS (i : Int)
      obtain ⟨-, t5, -, -, -⟩ := D1.1.gcell (i := m) hmS
      have c2 : (W1.setCell ⟨g, i * 22 + 18, none⟩ (.int .i64 P)).cell? ⟨p, 1, none⟩ = some (.slice (some ⟨g, 0, none⟩) n cap) := by
        rw [World.cell?_setCell_other _ _ _ _ (fun e => by injection e with e1; exact hgp e1)]; exact c1
      have e3 : in3 L up i (m : Int) P = updL (in2 L up i (m : Int) P) m { in2 L up i (m : Int) P m with prev := (i : Int) } := by
        unfold in3
        rw [if_neg eb, Int.toNat_natCast]
      have HD : Hid (DY K ((W1.setCell ⟨g, i * 22 + 18, none⟩ (.int .i64 P)).setCell ⟨g, m * 22 + 18, none⟩ (.int .i64 (i : Int))) p (S.setG (in3 L up i (m : Int) P)) (some ⟨g, 0, none⟩) cap) := by rw [e3]; exact D2.1
      have HK : Hid (Kept K w ((W1.setCell ⟨g, i * 22 + 18, none⟩ (.int .i64 P)).setCell ⟨g, m * 22 + 18, none⟩ (.int .i64 (i : Int)))) := HK2.out.trans (D1.2.trans D2.2)
      have hm0 : ((m : Int) == -1) = false := by simp
      have rm := r1 m hm
      clear D1 D2 eP HP HPO HB H3 HNE e3 hb1
      go_wp2_with (first | (go_at_call 189; refine (rm _ ?_).mono ?_; exact c1; rintro e w2 ⟨rfl, hw2⟩; subst hw2) | (go_at_call 189; refine (rm _ ?_).mono ?_; exact c2; rintro e w2 ⟨rfl, hw2⟩; subst hw2))
      go_meet
      case rel => exact ⟨HD.out, HK.out⟩
  case rest =>
    obtain ⟨hY3, hK3⟩ := hcut
    clear c1 HY2 HK2
    have c1 : wc.cell? ⟨p, 1, none⟩ = some (.slice (some ⟨g, 0, none⟩) n cap) := by have := hY3.c1; rw [show (S.setG (in3 L up i bef P)).n = n from HNE.out] at this; exact this
    obtain ⟨-, t1, -, -, -⟩ := hY3.gcell (i := i) hiS
    replace t1 : wc.cell? ⟨g, i * 22 + 18, none⟩ = some (.int .i64 P) := by
      rw [show (S.setG (in3 L up i bef P)).gf i = in3 L up i bef P i from rfl, H3.out] at t1
      exact t1
    by_cases hP1 : P = -1
    · subst hP1
      obtain ⟨-, -, -, t3, -⟩ := hY3.gcell (i := up) huS
      have f3 := hY3.fg (up * 22 + 20)
      have D := hY3.setGfirst (i := up) huS (i : Int)
      have HD : Hid (DY K (wc.setCell ⟨g, up * 22 + 20, none⟩ (.int .i64 (i : Int))) p (S.setG (in4 L up i bef (-1))) (some ⟨g, 0, none⟩) cap) := D.1
      have HK : Hid (Kept K w (wc.setCell ⟨g, up * 22 + 20, none⟩ (.int .i64 (i : Int)))) := hK3.trans D.2
      clear D hY3 hK3 HP HPO HB H3 HNE
      go_wp2_with (go_at_call 189; refine (ru _ ?_).mono ?_; exact c1; rintro e w2 ⟨rfl, hw2⟩; subst hw2)
      go_end0
      exact ⟨rfl, HD.out, HK.out⟩
    · rcases HPO.out with e0 | ⟨q, hq, hqi, e0⟩
      · exact absurd e0 hP1
      subst e0
      have eb : ¬ ((q : Int) = -1) := hP1
      have hqS : q < (S.setG L).n := by show q < S.n; rw [HNE.out]; exact hq
      obtain ⟨-, -, t3, -, -⟩ := hY3.gcell (i := q) hqS
      have f3 := hY3.fg (q * 22 + 19)
      have D := hY3.setGnext (i := q) hqS (i : Int)
      have e4 : in4 L up i bef (q : Int) = updL (in3 L up i bef (q : Int)) q { in3 L up i bef (q : Int) q with next := (i : Int) } := by
        unfold in4
        rw [if_neg eb, Int.toNat_natCast]
      have HD : Hid (DY K (wc.setCell ⟨g, q * 22 + 19, none⟩ (.int .i64 (i : Int))) p (S.setG (in4 L up i bef (q : Int))) (some ⟨g, 0, none⟩) cap) := by rw [e4]; exact D.1
      have HK : Hid (Kept K w (wc.setCell ⟨g, q * 22 + 19, none⟩ (.int .i64 (i : Int)))) := hK3.trans D.2
      have hq0 : ((q : Int) == -1) = false := by simp
      have rq := r1 q hq
      clear D hY3 hK3 HP HPO HB H3 HNE e4 hP1
      go_wp2_with (go_at_call 189; refine (rq _ ?_).mono ?_; exact c1; rintro e w2 ⟨rfl, hw2⟩; subst hw2)
      go_end0
      exact ⟨rfl, HD.out, HK.out⟩
end Go.Proofs.YtbhfnbplbkncmaaGreat
