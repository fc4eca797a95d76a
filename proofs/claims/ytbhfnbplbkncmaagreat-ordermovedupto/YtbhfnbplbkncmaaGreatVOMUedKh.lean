/-
  order.Top; portierelaw09.known.
-/
import Derived.Test.YtbhfnbplbkncmaaGreatVOMUedKg
import Derived.Test.YtbhfnbplbkncmaaGreatZ12
import Derived.Test.YtbhfnbplbkncmaaGreatVOMUedVb
namespace Go.Proofs.YtbhfnbplbkncmaaGreat
open Go.RowKit
set_option linter.unusedVariables false
set_option maxRecDepth 20000 in
set_option maxHeartbeats 1000000 in
theorem top_any (K : Nat → Prop) (p : Nat) (M : Dm) (R G : Nat → List Nat) (rk : Nat → Nat) (w : World) (hd : DX K w p M) (hI : Inv M R G rk) (hn : M.n ≤ 100000) :
    ∀ (f i : Nat), rk i < f → i < M.n → ∀ t, TopT M i t → ∀ X, Kept (fun k => k < w.heap.size) w X → Calls Tryz.prog 25 #[.pointer (some ⟨p, 0, none⟩), .int .i64 (i : Int)] X fun e w' => e = .returned (.int .i64 (t : Int)) ∧ Kept (fun k => k < X.heap.size) X w' := by
  intro f
  induction f with
  | zero => exact fun i h => absurd h (Nat.not_lt_zero _)
  | succ f ih =>
    intro i hf hi t hT X hX
    obtain ⟨r, hr, hTr, hup, hle⟩ := hI.good.top _ i (Nat.lt_succ_self _) hi
    have r1 := (oroot_any K p i M R rk X (hd.kept hX) hI.good hi (by omega)).mono (R' := fun e w' => e = .returned (.int .i64 (r : Int)) ∧ Kept (fun k => k < X.heap.size) X w') fun e w' ⟨t', _, q2, q3, q4⟩ => by rw [q2.one hTr] at q3; exact ⟨q3, q4⟩
    have HND : Hid (∀ Y, Kept (fun k => k < X.heap.size) X Y → Calls Tryz.prog 24 #[.pointer (some ⟨p, 0, none⟩), .int .i64 (r : Int)] Y fun e w' => Told Y (M.nd r) (M.pl r).up (R r) e w') := fun Y hY => node_any K p r M R Y ((hd.kept hX).kept hY) hI.good.wf hr (by omega) hI.good.few
    by_cases c : (M.nd r).kind = 5
    · obtain ⟨o, ho, e, -, hlt, -⟩ := hI.host hr c
      have hTo : TopT M o t := by
        cases hT with
        | here h0 k0 => rw [h0.one hTr] at k0; exact absurd c k0
        | up h0 k0 e' h' =>
          have := h0.one hTr
          subst this
          have h9 := Int.ofNat.inj (e.symm.trans e')
          subst h9
          exact h'
      have HTOP : Hid (∀ Y, Kept (fun k => k < X.heap.size) X Y → Calls Tryz.prog 25 #[.pointer (some ⟨p, 0, none⟩), .int .i64 (o : Int)] Y fun e w' => e = .returned (.int .i64 (t : Int)) ∧ Kept (fun k => k < Y.heap.size) Y w') := fun Y hY => ih o (by omega) ho t hTo Y (hX.trans (hY.mono fun k h => Nat.lt_of_lt_of_le h hX.size))
      obtain ⟨x, hx⟩ : ∃ x, M.nd r = x := ⟨_, rfl⟩
      rw [hx] at c e
      have HXF : Hid (x.kind = 5 ∧ x.host = (o : Int)) := ⟨c, e⟩
      have HX : Hid (M.nd r = x) := hx
      clear ih hT hTr hTo c e hx hd hI hup
      go_enter Tryz.func25, Tryz.ntmps25
      go_wp2_with fail
      refine r1.mono ?_
      rintro e v1 ⟨rfl, hk1⟩
      have rn := HND.out v1 hk1
      rw [HX.out] at rn
      have HK1 : Hid (Kept (fun k => k < X.heap.size) X v1) := hk1
      clear r1 hk1
      go_wp2_with fail
      refine rn.mono ?_
      rintro e v2 ⟨ao1, ac1, ko1, kc1, rfl, -, hQ1, hKa⟩
      obtain ⟨N1, hN1⟩ : ∃ N, v2.heap.size = N := ⟨_, rfl⟩
      obtain ⟨V1, hV1⟩ : ∃ V, v2.alloc (.cells (outN x ao1 ac1 (M.pl r).up ko1 (R r).length kc1) 36) = V := ⟨_, rfl⟩
      have hB1 := Box.of hQ1 hKa V1 N1 hN1 hV1
      have HV1 : Hid (v2.alloc (.cells (outN x ao1 ac1 (M.pl r).up ko1 (R r).length kc1) 36) = V1) := hV1
      have HN1 : Hid (v2.heap.size = N1) := hN1
      have b0 := hB1.c0
      have b7 := hB1.c7
      rw [HXF.out.1] at b0
      rw [HXF.out.2] at b7
      have kXV : Kept (fun k => k < X.heap.size) X V1 := HK1.out.trans (hB1.kept.mono fun k h => Nat.lt_of_lt_of_le h HK1.out.size)
      have rt := HTOP.out V1 kXV
      have HKV : Hid (Kept (fun k => k < X.heap.size) X V1) := kXV
      clear rn hQ1 hKa hN1 hV1 hB1 kXV
      go_upto_region 3 with fail
      rw [HV1.out, HN1.out]
      clear HV1 HN1
      go_wp2_with (go_at_call 25; refine rt.mono ?_; rintro e v3 ⟨rfl, hk3⟩)
      go_ret
      exact ⟨rfl, HKV.out.trans (hk3.mono fun k h => Nat.lt_of_lt_of_le h HKV.out.size)⟩
    · have hrt : t = r := by
        cases hT with
        | here h0 k0 => exact h0.one hTr
        | up h0 k0 _ _ => rw [h0.one hTr] at k0; exact absurd k0 c
      subst hrt
      obtain ⟨kd, hkd⟩ : ∃ kd, (M.nd t).kind = kd := ⟨_, rfl⟩
      have HKD : Hid ((M.nd t).kind = kd) := hkd
      rw [hkd] at c
      have e1 : ((kd : Int) == 5) = false := by simp; omega
      clear ih hT hTr hd hI hkd hup
      go_enter Tryz.func25, Tryz.ntmps25
      go_wp2_with fail
      refine r1.mono ?_
      rintro e v1 ⟨rfl, hk1⟩
      have rn := HND.out v1 hk1
      have HK1 : Hid (Kept (fun k => k < X.heap.size) X v1) := hk1
      clear r1 hk1
      go_wp2_with fail
      refine rn.mono ?_
      rintro e v2 ⟨ao1, ac1, ko1, kc1, rfl, -, hQ1, hKa⟩
      have HK2 : Hid (∀ o, Kept (fun k => k < X.heap.size) X (v2.alloc o)) := fun o => (HK1.out.trans (hKa.mono fun k h => Nat.lt_of_lt_of_le h HK1.out.size)).alloc (fun k h => Nat.lt_of_lt_of_le h (Nat.le_trans HK1.out.size hKa.size)) o
      rw [HKD.out]
      clear rn hQ1 hKa
      go_wp2
      go_ret
      exact ⟨rfl, HK2.out _⟩
theorem kT4 : trI kM4.n kR4 0 = [0, 1, 2] := by kernel_rfl
theorem kTop2 : RootI kM4 2 0 := .inr ⟨2, 0, by decide, rfl, .up (m := 1) (by kernel_rfl) (.up (m := 0) (by kernel_rfl) (.here (by kernel_rfl))), by decide, rfl⟩
theorem kTop1 : RootI kM4 1 0 := .inr ⟨1, 0, by decide, rfl, .up (m := 0) (by kernel_rfl) (.here (by kernel_rfl)), by decide, rfl⟩
theorem kTop9 : RootI kM4 9 (-1) := .inl ⟨.inr (by decide), rfl⟩
theorem kBef : befB kM4 kR4 1 2 0 0 = true := by kernel_rfl
set_option maxRecDepth 20000 in
set_option maxHeartbeats 2000000 in
theorem oknown_any (w : World) : Calls Tryz.prog 21 #[] w fun e w' => e = .returned (.bool true) ∧ Kept (fun k => k < w.heap.size) w w' := by
  have r0 := new_yes 9 w (by decide) (by decide)
  go_enter Tryz.func21, Tryz.ntmps21
  go_wp2_with fail
  refine r0.mono ?_
  rintro e w1 ⟨p, rfl, hp, hX1, hK1⟩
  have HK1 : Hid (Kept (fun k => k < w.heap.size) w w1) := hK1
  have H1 : Hid (Calls Tryz.prog 75 #[.pointer (some ⟨p, 0, none⟩), plainV 1 divB ⟨#[]⟩] w1 fun e w' => e = .returned (.tuple #[.int .i64 1, .int .u16 0]) ∧ DX (fun k => k < w.heap.size) w' p ((Dm.new 9).add divN) ∧ Kept (fun k => k < w.heap.size) w1 w') := make1 (fun k => k < w.heap.size) p (Dm.new 9) w1 1 1 divB ⟨#[]⟩ [100, 105, 118] [] rfl divB_list empB_list hX1 (by decide) (by decide) sound_div (by decide) (by decide)
  clear r0 hX1 hK1
  go_wp2_with fail
  refine H1.out.mono ?_
  rintro e w2 ⟨rfl, hX2, hK2⟩
  have HK2 : Hid (Kept (fun k => k < w.heap.size) w w2) := HK1.out.trans hK2
  have H2 : Hid (Calls Tryz.prog 75 #[.pointer (some ⟨p, 0, none⟩), plainV 2 ⟨#[]⟩ ⟨#[120]⟩] w2 fun e w' => e = .returned (.tuple #[.int .i64 2, .int .u16 0]) ∧ DX (fun k => k < w.heap.size) w' p kM2 ∧ Kept (fun k => k < w.heap.size) w2 w') := make1 (fun k => k < w.heap.size) p ((Dm.new 9).add divN) w2 2 2 ⟨#[]⟩ ⟨#[120]⟩ [] [120] rfl empB_list xB_list hX2 (by decide) (by decide) sound_txt (by decide) (by decide)
  clear hX2 hK2 H1
  go_wp2_with fail
  refine H2.out.mono ?_
  rintro e w3 ⟨rfl, hX3, hK3⟩
  have HK3 : Hid (Kept (fun k => k < w.heap.size) w w3) := HK2.out.trans hK3
  have r1 := insert_in (fun k => k < w.heap.size) p 0 1 (-1) kM2 kR2 _ w3 hX3 kG2.wf kG2.acy (by decide) (by decide) (.inl rfl) (by decide)
  have H3 : Hid (Calls Tryz.prog 36 #[.pointer (some ⟨p, 0, none⟩), .int .i64 0, .int .i64 1, .int .i64 (-1)] w3 fun e w' => e = .returned (.int .u16 0) ∧ DX (fun k => k < w.heap.size) w' p kM3 ∧ Kept (fun k => k < w.heap.size) w3 w') := r1.mono fun e w' h => by
    rcases h with ⟨hK, ⟨_, h, _⟩ | ⟨h1, _, h2⟩⟩
    · exact absurd kF2 h
    · exact ⟨h1, h2, hK⟩
  clear r1 hX3 hK3 H2
  go_wp2_with fail
  refine H3.out.mono ?_
  rintro e w4 ⟨rfl, hX4, hK4⟩
  have HK4 : Hid (Kept (fun k => k < w.heap.size) w w4) := HK3.out.trans hK4
  obtain ⟨rk3, hG3⟩ := kG2.ins (by decide) (by decide) kF2
  have hG3' : Good kM3 kR3 rk3 := hG3
  have r1 := insert_in (fun k => k < w.heap.size) p 1 2 (-1) kM3 kR3 rk3 w4 hX4 hG3'.wf hG3'.acy (by decide) (by decide) (.inl rfl) (by decide)
  have H4 : Hid (Calls Tryz.prog 36 #[.pointer (some ⟨p, 0, none⟩), .int .i64 1, .int .i64 2, .int .i64 (-1)] w4 fun e w' => e = .returned (.int .u16 0) ∧ DX (fun k => k < w.heap.size) w' p kM4 ∧ Kept (fun k => k < w.heap.size) w4 w') := r1.mono fun e w' h => by
    rcases h with ⟨hK, ⟨_, h, _⟩ | ⟨h1, _, h2⟩⟩
    · exact absurd kF3 h
    · exact ⟨h1, h2, hK⟩
  have HG4 : Hid (∃ rk4, Good kM4 kR4 rk4) := hG3'.ins (by decide) (by decide) kF3
  clear r1 hX4 hK4 H3 hG3 hG3'
  go_wp2_with fail
  refine H4.out.mono ?_
  rintro e w5 ⟨rfl, hX5, hK5⟩
  have HK5 : Hid (Kept (fun k => k < w.heap.size) w w5) := HK4.out.trans hK5
  obtain ⟨rk4, hG4⟩ := HG4.out
  have rt := tree_any (fun k => k < w.heap.size) p kM4 kR4 rk4 w5 hX5 hG4 (by decide) 0
  rw [kT4] at rt
  have HX5 : Hid (DX (fun k => k < w.heap.size) w5 p kM4) := hX5
  have HG : Hid (Good kM4 kR4 rk4) := hG4
  clear H4 hX5 hK5 hG4 HG4
  go_wp2_with fail
  refine rt.mono ?_
  rintro e w6 ⟨ao, c, rfl, hO, hK6⟩
  have hI : IntsAt (fun g => g < w6.heap.size) w6 ao [0, 1, 2] := hO.intsAt fun g hg => (hO.out hg).2
  obtain ⟨g, rfl, hg, hcl⟩ : ∃ g, ao = some ⟨g, 0, none⟩ ∧ g < w6.heap.size ∧ w6.cell? ⟨g, 0, none⟩ = some (.int .i64 0) ∧ w6.cell? ⟨g, 1, none⟩ = some (.int .i64 1) ∧ w6.cell? ⟨g, 2, none⟩ = some (.int .i64 2) := by
    obtain ⟨g, e, h0⟩ := hO.cell (j := 0) (u := .int .i64 0) rfl
    obtain ⟨g1, e1, h1⟩ := hO.cell (j := 1) (u := .int .i64 1) rfl
    obtain ⟨g2, e2, h2⟩ := hO.cell (j := 2) (u := .int .i64 2) rfl
    rw [e] at e1 e2
    injection e1 with e1
    injection e1 with e1
    injection e2 with e2
    injection e2 with e2
    subst e1 e2
    exact ⟨g, e, (hO.out (g := g) e).2, h0, h1, h2⟩
  obtain ⟨a0, a1, a2⟩ := hcl
  have hX6 : DX (fun k => k < w.heap.size) w6 p kM4 := HX5.out.kept hK6
  have q2 := kTop2.calls hX6 HG.out (by decide)
  have HQ9 : Hid (∀ X, Kept (fun k => k < w6.heap.size) w6 X → Calls Tryz.prog 26 #[.pointer (some ⟨p, 0, none⟩), .int .i64 9] X fun e w' => e = .returned (.int .i64 (-1)) ∧ Kept (fun k => k < X.heap.size) X w') := fun X hX => kTop9.calls (hX6.kept hX) HG.out (by decide)
  have HQB : Hid (∀ X, Kept (fun k => k < w6.heap.size) w6 X → Calls Tryz.prog 34 #[.pointer (some ⟨p, 0, none⟩), .int .i64 1, .int .i64 2] X fun e w' => e = .returned (.bool true) ∧ Kept (fun k => k < X.heap.size) X w') := fun X hX => by
    have := before_any (fun k => k < w.heap.size) p kM4 kR4 rk4 X (hX6.kept hX) HG.out (by decide) 1 2 0 0 kTop1 kTop2
    rw [kBef] at this
    exact this
  have HK6 : Hid (Kept (fun k => k < w.heap.size) w w6) := HK5.out.trans (hK6.mono fun k h => Nat.lt_of_lt_of_le h HK5.out.size)
  clear rt hO hK6 hI hX6
  go_wp2_with fail
  refine q2.mono ?_
  rintro e w7 ⟨rfl, hk7⟩
  have q9 := HQ9.out w7 hk7
  have HK7 : Hid (Kept (fun k => k < w6.heap.size) w6 w7) := hk7
  clear q2 hk7
  go_wp2_with fail
  refine q9.mono ?_
  rintro e w8 ⟨rfl, hk8⟩
  have k68 : Kept (fun k => k < w6.heap.size) w6 w8 := HK7.out.trans (hk8.mono fun k h => Nat.lt_of_lt_of_le h HK7.out.size)
  have qb := HQB.out w8 k68
  have HK8 : Hid (Kept (fun k => k < w.heap.size) w w8) := HK6.out.trans (k68.mono fun k h => Nat.lt_of_lt_of_le h HK6.out.size)
  clear q9 hk8 k68
  go_wp2_with (go_at_call 34; refine qb.mono ?_; rintro e w9 ⟨rfl, hk9⟩)
  go_ret
  exact ⟨rfl, HK8.out.trans (hk9.mono fun k h => Nat.lt_of_lt_of_le h HK8.out.size)⟩
end Go.Proofs.YtbhfnbplbkncmaaGreat
