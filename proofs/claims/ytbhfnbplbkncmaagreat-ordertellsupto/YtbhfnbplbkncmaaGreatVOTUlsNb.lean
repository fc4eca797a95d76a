/-
  The document's own order.Top, Tree and All of any number, Before.
-/
import Derived.Test.YtbhfnbplbkncmaaGreatVOTUlsNa
namespace Go.Proofs.YtbhfnbplbkncmaaGreat
open Go.RowKit Go.Sort
set_option linter.unusedVariables false
set_option maxRecDepth 20000 in
set_option maxHeartbeats 2000000 in
theorem pTop_in (K : Nat → Prop) (p : Nat) (M : Dm) (R G : Nat → List Nat) (rk : Nat → Nat) (w : World) (h : RX K w p M R G) (hI : Inv M R G rk) (hn : M.n ≤ 100000) :
    ∀ (f i : Nat), rk i < f → i < M.n → ∀ t, TopT M i t → Calls Tryz.prog 30 #[.pointer (some ⟨p, 0, none⟩), .int .i64 (i : Int)] w fun e w' => e = .returned (.int .i64 (t : Int)) ∧ w' = w := by
  intro f
  induction f with
  | zero => exact fun i h => absurd h (Nat.not_lt_zero _)
  | succ f ih =>
    intro i hf hi t hT
    obtain ⟨r, hr, hTr, hup, hle⟩ := hI.good.top _ i (Nat.lt_succ_self _) hi
    have r1 := (pRoot_any K p i M R G rk w h hI.good hi (by omega)).mono (R' := fun e w' => e = .returned (.int .i64 (r : Int)) ∧ w' = w) fun e w' ⟨t', _, q2, q3, q4⟩ => by rw [q2.one hTr] at q3; exact ⟨q3, q4⟩
    obtain ⟨g, nc, ka, kc, hN⟩ := h.nodeAt hr
    have hA := hN w (Kept.refl _ _)
    have c1 := hA.c1
    have c0 := hA.c0
    have c7 := hA.c7
    have e0 : decide ((r : Int) ≥ 0) = true := decide_eq_true (by omega)
    by_cases c : (M.nd r).kind = 5
    · obtain ⟨o, ho, e, -, hlt, -⟩ := hI.host hr c
      have hTo : TopT M o t := by
        cases hT with
        | here h0 k0 => rw [h0.one hTr] at k0; exact absurd c k0
        | up h0 k0 e' h' =>
          have := h0.one hTr
          subst this
          have h9 := Int.ofNat.inj (e.symm.trans e')
          subst h9
          exact h'
      have rt := ih o (by omega) ho t hTo
      rw [c] at c0
      rw [e] at c7
      clear ih hT hTr hTo c e hI hup hN hA h hle hlt hf
      go_enter Tryz.func30, Tryz.ntmps30
      go_upto_region 2 with (go_at_call 29; refine r1.mono ?_; rintro e1 w3 ⟨rfl, hw3⟩; replace hw3 := hw3.symm; subst hw3)
      clear r1
      go_wp2_with (go_at_call 30; refine rt.mono ?_; rintro e1 w3 ⟨rfl, hw3⟩; replace hw3 := hw3.symm; subst hw3)
      go_ret
      exact ⟨rfl, rfl⟩
    · have hrt : t = r := by
        cases hT with
        | here h0 k0 => exact h0.one hTr
        | up h0 k0 _ _ => rw [h0.one hTr] at k0; exact absurd k0 c
      subst hrt
      obtain ⟨kd, hkd⟩ : ∃ kd, (M.nd t).kind = kd := ⟨_, rfl⟩
      rw [hkd] at c c0
      have e1 : ((kd : Int) == 5) = false := by simp; omega
      clear ih hT hTr hI hkd hup hN hA h hle hf c7
      go_enter Tryz.func30, Tryz.ntmps30
      go_upto_region 2 with (go_at_call 29; refine r1.mono ?_; rintro e1 w3 ⟨rfl, hw3⟩; replace hw3 := hw3.symm; subst hw3)
      clear r1
      go_wp2
      go_ret
      exact ⟨rfl, rfl⟩
set_option maxRecDepth 20000 in
theorem pTop_none (K : Nat → Prop) (p : Nat) (M : Dm) (R G : Nat → List Nat) (i : Int) (w : World) (h : RX K w p M R G) (hi : i < 0 ∨ (M.n : Int) ≤ i) :
    Calls Tryz.prog 30 #[.pointer (some ⟨p, 0, none⟩), .int .i64 i] w fun e w' => e = .returned (.int .i64 (-1)) ∧ w' = w := by
  have rt := pRoot_none K p M R G i w h hi
  have e0 : decide ((-1 : Int) ≥ 0) = false := by decide
  clear h hi
  go_enter Tryz.func30, Tryz.ntmps30
  go_wp2_with (go_at_call 29; refine rt.mono ?_; rintro e1 w3 ⟨rfl, hw3⟩; replace hw3 := hw3.symm; subst hw3)
  go_ret
  exact ⟨rfl, rfl⟩
set_option maxRecDepth 20000 in
theorem pTree_any (K : Nat → Prop) (p : Nat) (M : Dm) (R G : Nat → List Nat) (rk : Nat → Nat) (w : World) (h : RX K w p M R G) (hI : Inv M R G rk) (hn : M.n ≤ 100000) (z : Int) :
    Calls Tryz.prog 32 #[.pointer (some ⟨p, 0, none⟩), .int .i64 z] w (Lst w (trI M.n R z)) := by
  by_cases c : z < 0 ∨ (M.n : Int) ≤ z
  · rw [trI_no c]
    have rt := othere_any K p M R G z w h
    rw [there_no c] at rt
    clear h c hI
    go_enter Tryz.func32, Tryz.ntmps32
    go_wp2_with (go_at_call 84; refine rt.mono ?_; rintro e1 w3 ⟨rfl, hw3⟩; replace hw3 := hw3.symm; subst hw3)
    go_ret
    exact ⟨none, 0, rfl, OwnZ.nil _ _ _ _, Kept.refl _ _⟩
  · obtain ⟨i, hi, rfl⟩ : ∃ i : Nat, i < M.n ∧ z = (i : Int) := ⟨z.toNat, by omega, by omega⟩
    rw [trI_in hi]
    exact pTree_in K p M R G rk w h hI hn _ i (Nat.lt_succ_self _) hi w (Kept.refl _ _)
set_option maxRecDepth 20000 in
theorem pAll_any (K : Nat → Prop) (p : Nat) (M : Dm) (R G : Nat → List Nat) (rk : Nat → Nat) (w : World) (h : RX K w p M R G) (hI : Inv M R G rk) (hn : M.n ≤ 100000) (z : Int) :
    Calls Tryz.prog 33 #[.pointer (some ⟨p, 0, none⟩), .int .i64 z] w (Lst w (trI M.n (fwd M R) z)) := by
  by_cases c : z < 0 ∨ (M.n : Int) ≤ z
  · rw [trI_no c]
    have rt := othere_any K p M R G z w h
    rw [there_no c] at rt
    clear h c hI
    go_enter Tryz.func33, Tryz.ntmps33
    go_wp2_with (go_at_call 84; refine rt.mono ?_; rintro e1 w3 ⟨rfl, hw3⟩; replace hw3 := hw3.symm; subst hw3)
    go_ret
    exact ⟨none, 0, rfl, OwnZ.nil _ _ _ _, Kept.refl _ _⟩
  · obtain ⟨i, hi, rfl⟩ : ∃ i : Nat, i < M.n ∧ z = (i : Int) := ⟨z.toNat, by omega, by omega⟩
    rw [trI_in hi]
    exact pAll_in K p M R G rk w h hI hn _ i (Nat.lt_succ_self _) hi w (Kept.refl _ _)
theorem RootI.pcalls {K : Nat → Prop} {p : Nat} {M : Dm} {R G : Nat → List Nat} {rk : Nat → Nat} {w : World} {z r : Int} (h : RootI M z r) (hd : RX K w p M R G) (hG : Good M R rk) (hn : M.n ≤ 100000) :
    Calls Tryz.prog 29 #[.pointer (some ⟨p, 0, none⟩), .int .i64 z] w fun e w' => e = .returned (.int .i64 r) ∧ w' = w := by
  rcases h with ⟨h1, rfl⟩ | ⟨k, t, h1, rfl, h2, h3, rfl⟩
  · exact pRoot_none K p M R G z w hd h1
  · exact (pRoot_any K p k M R G rk w hd hG h1 (by omega)).mono fun e w' ⟨t', _, q2, q3, q4⟩ => by rw [q2.one h2] at q3; exact ⟨q3, q4⟩
set_option maxRecDepth 20000 in
set_option maxHeartbeats 4000000 in
theorem pBefore_any (K : Nat → Prop) (p : Nat) (M : Dm) (R G : Nat → List Nat) (rk : Nat → Nat) (w : World) (h : RX K w p M R G) (hI : Inv M R G rk) (hn : M.n ≤ 100000) (a b ra rb : Int) (hra : RootI M a ra) (hrb : RootI M b rb) :
    Calls Tryz.prog 35 #[.pointer (some ⟨p, 0, none⟩), .int .i64 a, .int .i64 b] w fun e w' => e = .returned (.bool (befB M R a b ra rb)) ∧ Kept (fun k => k < w.heap.size) w w' := by
  have r1 := hra.pcalls h hI.good hn
  have r2 := hrb.pcalls h hI.good hn
  have rt := pTree_any K p M R G rk w h hI hn ra
  have hlen : (trI M.n R ra).length ≤ 100000 := Nat.le_trans (trI_len hI.good.only ra) hn
  obtain ⟨v, hv⟩ : ∃ v, befB M R a b ra rb = v := ⟨_, rfl⟩
  rw [hv]
  have HV : Hid (befB M R a b ra rb = v) := hv
  rcases hra.lt with rfl | ⟨t, ht, rfl⟩
  · have hv0 : v = false := by
      rw [← HV.out]
      unfold befB
      rw [trI_no (.inl (by decide))]
      show (!(a == b) && ((-1 : Int) == rb && false)) = false
      rw [Bool.and_false, Bool.and_false]
    subst hv0
    have e0 : decide ((-1 : Int) < 0) = true := by decide
    clear r2 rt hlen hv h hI hra hrb
    go_enter Tryz.func35, Tryz.ntmps35
    go_wp2_with (go_at_call 29; refine r1.mono ?_; rintro e1 w3 ⟨rfl, hw3⟩; replace hw3 := hw3.symm; subst hw3)
    go_ret
    exact ⟨rfl, Kept.refl _ _⟩
  have e0 : decide ((t : Int) < 0) = false := decide_eq_false (by omega)
  by_cases q1 : (t : Int) = rb
  · subst q1
    by_cases q2 : a = b
    · subst q2
      have hv0 : v = false := by
        rw [← HV.out]
        unfold befB
        rw [beq_self_eq_true]
        rfl
      subst hv0
      clear rt hlen hv h hI hra hrb
      go_enter Tryz.func35, Tryz.ntmps35
      go_upto_region 2 with (go_at_call 29; refine r1.mono ?_; rintro e1 w3 ⟨rfl, hw3⟩; replace hw3 := hw3.symm; subst hw3)
      go_wp2_with (go_at_call 29; refine r2.mono ?_; rintro e1 w3 ⟨rfl, hw3⟩; replace hw3 := hw3.symm; subst hw3)
      go_ret
      exact ⟨rfl, Kept.refl _ _⟩
    · have e1 : (a == b) = false := by simpa using q2
      have hv1 : firstL a b (trI M.n R (t : Int)) = v := by
        rw [← HV.out]
        unfold befB
        rw [e1, beq_self_eq_true]
        rfl
      obtain ⟨L, hL⟩ : ∃ L, trI M.n R (t : Int) = L := ⟨_, rfl⟩
      rw [hL] at rt hlen hv1
      have HF : Hid (firstL a b L = v) := hv1
      clear hv h hI hra hrb hv1 hL HV
      go_enter Tryz.func35, Tryz.ntmps35
      go_upto_region 2 with (go_at_call 29; refine r1.mono ?_; rintro e1 w3 ⟨rfl, hw3⟩; replace hw3 := hw3.symm; subst hw3)
      go_upto_region 4 with (go_at_call 29; refine r2.mono ?_; rintro e1 w3 ⟨rfl, hw3⟩; replace hw3 := hw3.symm; subst hw3)
      go_wp2_with fail
      refine rt.mono ?_
      rintro e U ⟨ao, cp, rfl, hO, hk⟩
      have HROW : Hid (IntsAt (fun g => g < U.heap.size) U ao L) := hO.intsAt fun g hg => (hO.out hg).2
      have HKU : Hid (Kept (fun k => k < w.heap.size) w U) := hk
      obtain ⟨ll, hll⟩ : ∃ ll, L.length = ll := ⟨_, rfl⟩
      have HLL : Hid (L.length = ll) := hll
      rw [hll] at hlen ⊢
      clear r1 r2 rt hO hk hll
      go_upto_region 6 with fail
      go_loopg [9] ll (fun gh v9 wr => wr = U ∧ ∃ j : Nat, gh = ll - j ∧ j ≤ ll ∧ v9 = .int .i64 (j : Int) ∧ ∀ y ∈ L.take j, ¬ ((y : Int) = a ∨ (y : Int) = b))
      case atStart => exact ⟨rfl, 0, rfl, Nat.zero_le _, rfl, fun y hy => by rw [List.take_zero] at hy; cases hy⟩
      case round =>
        obtain ⟨hw, j, hgj, hj, rfl, hno⟩ := hrel
        subst hw
        have HNO : Hid (∀ y ∈ L.take j, ¬ ((y : Int) = a ∨ (y : Int) = b)) := hno
        clear hno
        by_cases hlt : j < ll
        · have hjL : j < L.length := by rw [HLL.out]; exact hlt
          obtain ⟨g, o, rfl, hg, d⟩ := HROW.out j hjL
          obtain ⟨y, hy⟩ : ∃ y, L[j] = y := ⟨_, rfl⟩
          rw [hy] at d
          have d1 : wr.cell? ⟨g, o + j, none⟩ = some (.int .i64 (y : Int)) := d
          have HY : Hid (L = L.take j ++ y :: L.drop (j + 1)) := by rw [← hy, List.getElem_cons_drop, List.take_append_drop]; exact rfl
          have HTK : Hid (L.take (j + 1) = L.take j ++ [y]) := by rw [List.take_succ_eq_append_getElem hjL, hy]; exact rfl
          clear d hjL hy
          by_cases e : (y : Int) = a
          · have hv2 : v = true := by
              rw [← HF.out, HY.out, firstL_at _ HNO.out (.inl e), decide_eq_true e]
            subst hv2
            subst e
            go_wp2
            go_ret
            exact ⟨rfl, HKU.out⟩
          · have e2 : ((y : Int) == a) = false := by simpa using e
            by_cases e' : (y : Int) = b
            · have hv2 : v = false := by
                rw [← HF.out, HY.out, firstL_at _ HNO.out (.inr e'), decide_eq_false e]
              subst hv2
              subst e'
              go_wp2
              go_ret
              exact ⟨by simp, HKU.out⟩
            · have e3 : ((y : Int) == b) = false := by simpa using e'
              have HN2 : Hid (¬ ((y : Int) = a ∨ (y : Int) = b)) := fun h => h.elim e e'
              clear e e'
              go_wp2
              go_roundg (ll - (j + 1))
              case rel => exact ⟨rfl, j + 1, rfl, by omega, by go_num, fun x hx => by
                rw [HTK.out] at hx
                rcases List.mem_append.1 hx with h | h
                · exact HNO.out x h
                · rw [List.mem_singleton.1 h]; exact HN2.out⟩
              case measure => omega
        · have hjn : j = ll := by omega
          subst hjn
          have hv2 : v = false := by
            rw [← HF.out]
            refine firstL_no fun y hy => HNO.out y ?_
            rw [List.take_of_length_le (by rw [HLL.out]; exact Nat.le_refl _)]
            exact hy
          subst hv2
          go_wp2
          go_ret
          exact ⟨rfl, HKU.out⟩
  · have hv0 : v = false := by
      rw [← HV.out]
      unfold befB
      rw [show ((t : Int) == rb) = false by simpa using q1, Bool.false_and, Bool.and_false]
    subst hv0
    have e1 : ((t : Int) == rb) = false := by simpa using q1
    clear rt hlen hv h hI hra hrb
    go_enter Tryz.func35, Tryz.ntmps35
    go_upto_region 2 with (go_at_call 29; refine r1.mono ?_; rintro e1 w3 ⟨rfl, hw3⟩; replace hw3 := hw3.symm; subst hw3)
    go_wp2_with (go_at_call 29; refine r2.mono ?_; rintro e1 w3 ⟨rfl, hw3⟩; replace hw3 := hw3.symm; subst hw3)
    go_ret
    exact ⟨rfl, Kept.refl _ _⟩
end Go.Proofs.YtbhfnbplbkncmaaGreat
