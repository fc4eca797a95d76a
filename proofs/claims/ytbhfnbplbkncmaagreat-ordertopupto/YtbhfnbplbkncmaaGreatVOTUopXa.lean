/-
  The walk of OrderTop.
-/
import Derived.Test.YtbhfnbplbkncmaaGreatVOTUopKh
import Derived.Test.YtbhfnbplbkncmaaGreatVOTUopVd
import Derived.Lib.QuietBelow
import Derived.BigQuiet
namespace Go.Proofs.YtbhfnbplbkncmaaGreat
open Go.RowKit Go.Sort
set_option linter.unusedVariables false
section
variable {K E : Nat → Prop} {w : World} {p r : Nat} {M : Dm} {R G : Nat → List Nat} {rk : Nat → Nat} {lim : Nat}
theorem Grown.top (h : Grown K E w p r M R G rk lim) (hl : lim ≤ 100000) {i t : Nat} (hi : i < M.n) (hT : TopT M i t) {X : World} (hk : Kept (fun k => k < w.heap.size) w X) :
    Calls Tryz.prog 25 #[.pointer (some ⟨p, 0, none⟩), .int .i64 (i : Int)] X fun e w' => e = .returned (.int .i64 (t : Int)) ∧ Kept (fun k => k < X.heap.size) X w' :=
  top_any _ p M R G rk w h.two.d h.inv (h.nle hl) _ i (Nat.lt_succ_self _) hi t hT X hk
theorem TopT.of_up {i u t : Nat} (e : (M.pl i).up = (u : Int)) (h : TopT M u t) : TopT M i t := by
  cases h with
  | here h k => exact .here (.up e h) k
  | up h k e' h' => exact .up (.up e h) k e' h'
/-- A contract that only makes, in every world of a drawn region. -/
theorem calls_quiet {f : FuncId} {args : Array Value} {V : World} {v : Value} (h : ∀ X, Kept (fun k => k < V.heap.size) V X → Calls Tryz.prog f args X fun e w' => e = .returned v ∧ Kept (fun k => k < X.heap.size) X w') (d : Nat) (os : Array Obj) :
    Calls Tryz.prog f args (grow (redrawn V d) os) fun e w'' => e = .returned v ∧ ∃ p : Regrown, w'' = grow (redrawn V p.d) p.os :=
  Calls.regrown_of ((h _ (Below.kept (below_regrown V d os))).mono fun e w' hh => ⟨hh.1, hh.2.below⟩)
end
set_option maxRecDepth 20000 in
set_option maxHeartbeats 8000000 in
theorem otop_go (l : List Opx) (n : Nat) (hln : l.length = n) (hnn : n ≤ 60) (a : Option Addr) (c : Nat) (hok : ∀ o ∈ l, OpOk o) (hb : opsH l ≤ 6000) (w : World) (h : OpsAt (fun k => k < w.heap.size) w a l) (za : Nat) (hza : za < 65536) :
    Calls Tryz.prog 3 #[.slice a n c, .int .u16 (za : Int)] w fun e w' => e = .returned (.bool true) ∧ Kept (fun k => k < w.heap.size) w w' := by
  have rh := heavy9_any l n hln hnn a c (by omega) w h
  rw [decide_eq_false (by omega : ¬ 6000 < opsH l)] at rh
  have RG : Hid (∀ X, Kept (fun k => k < w.heap.size) w X → Calls Tryz.prog 22 #[.slice a n c] X fun e w' => ∃ p r E M R G rk, e = .returned (.tuple #[.pointer (some ⟨p, 0, none⟩), .pointer (some ⟨r, 0, none⟩)]) ∧ Grown (fun k => k < X.heap.size) E w' p r M R G rk 300 ∧ Kept (fun k => k < X.heap.size) X w') := fun X hX => grown9 l n hln (by omega) a c hok (by omega) X (h.kept hX fun g hg => Nat.lt_of_lt_of_le hg hX.size)
  clear hln hok hb h
  go_enter Tryz.func3, Tryz.ntmps3
  go_wp2_with fail
  refine rh.mono ?_
  rintro e w1 ⟨rfl, k1⟩
  have rk0 := oknown_any w1
  clear rh
  go_wp2_with fail
  refine rk0.mono ?_
  rintro e w2 ⟨rfl, k2⟩
  have k12 : Kept (fun k => k < w.heap.size) w w2 := k1.trans (k2.mono fun k h => Nat.lt_of_lt_of_le h k1.size)
  have rg := RG.out w2 k12
  have HK12 : Hid (Kept (fun k => k < w.heap.size) w w2) := k12
  clear rk0 k1 k2 k12 RG
  go_wp2_with fail
  refine rg.mono ?_
  rintro e W ⟨p, r, E, M, R, G, rk, rfl, hG, hK⟩
  have HG : Hid (Grown (fun k => k < w2.heap.size) E W p r M R G rk 300) := hG
  have HKW : Hid (Kept (fun k => k < w.heap.size) w W) := HK12.out.trans (hK.mono fun k h => Nat.lt_of_lt_of_le h HK12.out.size)
  obtain ⟨m, hm⟩ : ∃ m, M.n = m := ⟨_, rfl⟩
  have HM : Hid (M.n = m) := hm
  have hm300 : m ≤ 300 := by have h1 := hG.le; rw [hG.lim, hm] at h1; exact h1
  have hm1 : 1 ≤ m := by rw [← hm]; exact hG.inv.core.pos
  have rl : Calls Tryz.prog 23 #[.pointer (some ⟨p, 0, none⟩)] W fun e w' => e = .returned (.int .i64 (m : Int)) ∧ w' = W := by rw [← hm]; exact hG.len (Kept.refl _ _)
  have NODE : Hid (∀ i, i < m → ∀ X, Kept (fun k => k < W.heap.size) W X → Calls Tryz.prog 24 #[.pointer (some ⟨p, 0, none⟩), .int .i64 (i : Int)] X fun e w' => Told X (M.nd i) (M.pl i).up (R i) e w') := fun i hi X hX => hG.node (by decide) (by rw [hm]; exact hi) hX
  obtain ⟨i, hi⟩ : ∃ i, za % m = i := ⟨_, rfl⟩
  have him : i < m := by rw [← hi]; exact Nat.mod_lt _ (by omega)
  have hi' : (za : Int).tmod (m : Int) = (i : Int) := by rw [← hi]; rfl
  have hin : i < M.n := by rw [hm]; exact him
  have rn := NODE.out i him W (Kept.refl _ _)
  obtain ⟨x, hx⟩ : ∃ x, M.nd i = x := ⟨_, rfl⟩
  obtain ⟨up, hup⟩ : ∃ up, (M.pl i).up = up := ⟨_, rfl⟩
  rw [hx, hup] at rn
  have HX : Hid (M.nd i = x) := hx
  have HUP : Hid ((M.pl i).up = up) := hup
  clear hx hup
  obtain ⟨t, htn, hT, -⟩ := hG.inv.topT _ i (Nat.lt_succ_self _) hin
  have TOPI : Hid (∀ X, Kept (fun k => k < W.heap.size) W X → Calls Tryz.prog 25 #[.pointer (some ⟨p, 0, none⟩), .int .i64 (i : Int)] X fun e w' => e = .returned (.int .i64 (t : Int)) ∧ Kept (fun k => k < X.heap.size) X w') := fun X hX => hG.top (by decide) hin hT hX
  have HT : Hid (TopT M i t) := hT
  clear rg hG hK hm hi NODE hT htn hin
  go_upto_region 7 with (go_at_call 23; refine rl.mono ?_; rintro e1 w3 ⟨rfl, hw3⟩; replace hw3 := hw3.symm; subst hw3)
  clear rl
  go_wp2_with fail
  refine rn.mono ?_
  rintro e v1 ⟨ao1, ac1, ko1, kc1, rfl, -, hQ1, hKa⟩
  obtain ⟨N1, hN1⟩ : ∃ N, v1.heap.size = N := ⟨_, rfl⟩
  obtain ⟨V1, hV1⟩ : ∃ V, v1.alloc (.cells (outN x ao1 ac1 up ko1 (R i).length kc1) 36) = V := ⟨_, rfl⟩
  have hB1 := Box.of hQ1 hKa V1 N1 hN1 hV1
  have HV1 : Hid (v1.alloc (.cells (outN x ao1 ac1 up ko1 (R i).length kc1) 36) = V1) := hV1
  have HN1 : Hid (v1.heap.size = N1) := hN1
  have b0 := hB1.c0
  have b4 := hB1.c4
  have b7 := hB1.c7
  have HKV : Hid (Kept (fun k => k < W.heap.size) W V1) := hB1.kept
  have HKw : Hid (Kept (fun k => k < w.heap.size) w V1) := HKW.out.trans (hB1.kept.mono fun k h => Nat.lt_of_lt_of_le h HKW.out.size)
  have GV : Hid (Grown (fun k => k < w2.heap.size) E V1 p r M R G rk 300) := HG.out.kept hB1.kept
  have hups := HG.out.inv.ups (i := i) (by rw [HM.out]; exact him)
  rw [HUP.out] at hups
  have HIN : Hid (i < M.n) := by rw [HM.out]; exact him
  have q1 := calls_quiet (V := V1) (fun X hX => TOPI.out X (HKV.out.trans (hX.mono fun k h => Nat.lt_of_lt_of_le h HKV.out.size)))
  have TI := TOPI.out V1 HKV.out
  clear rn hQ1 hKa hN1 hV1 hB1
  go_upto_region 8 with fail
  rw [HV1.out, HN1.out]
  clear HV1 HN1
  obtain ⟨kd, hkd⟩ : ∃ kd, x.kind = kd := ⟨_, rfl⟩
  have HKD : Hid (x.kind = kd) := hkd
  rw [hkd] at b0
  clear hkd
  by_cases c5 : kd = 5
  · subst c5
    obtain ⟨o, ho, e, -, hlt, hu⟩ := HG.out.inv.host HIN.out (by rw [HX.out]; exact HKD.out)
    rw [HX.out] at e
    rw [e] at b7
    have hTi : TopOf M i i := .here hu
    have hTo : TopT M o t := by
      obtain ⟨t', -, h1, -⟩ := HG.out.inv.topT _ o (Nat.lt_succ_self _) ho
      have h2 : TopT M i t' := .up hTi (by rw [HX.out]; exact HKD.out) (by rw [HX.out]; exact e) h1
      rw [HT.out.one h2]
      exact h1
    have q2 := calls_quiet (V := V1) (fun X hX => GV.out.top (by decide) ho hTo hX)
    have q3 := calls_quiet (V := V1) (fun X hX => GV.out.root (by decide) HIN.out hTi hX)
    have d7 := fun d os => cell_regrown b7 d os
    clear hTi hTo e hu hlt ho b4
    go_upto_region 9 with fail
    refine wp_region_quiet_below (by kernel_rfl) (by kernel_rfl) ?_
    repeat (go_big_quiet_step (first | with_reducible exact q1 _ _ | with_reducible exact q2 _ _ | with_reducible exact q3 _ _))
    refine wpQuiet_nil ?_
    intro _ hw'
    obtain ⟨⟨dq, osq⟩, hw''⟩ := hw'
    subst hw''
    go_wp2
    go_ret
    exact ⟨by simp, HKw.out.trans ((Below.kept (below_regrown V1 dq osq)).mono fun k h => Nat.lt_of_lt_of_le h HKw.out.size)⟩
  · have e5 : ((kd : Int) == 5) = false := by simp; omega
    rcases hups with hu1 | ⟨u, hun, hu1⟩
    · subst hu1
      have hTi : TopOf M i i := .here HUP.out
      have hti : t = i := HT.out.one (.here hTi (by rw [HX.out, HKD.out]; exact c5))
      subst hti
      have ROOT : Hid (∀ X, Kept (fun k => k < V1.heap.size) V1 X → Calls Tryz.prog 26 #[.pointer (some ⟨p, 0, none⟩), .int .i64 (t : Int)] X fun e w' => e = .returned (.int .i64 (t : Int)) ∧ Kept (fun k => k < X.heap.size) X w') := fun X hX => GV.out.root (by decide) HIN.out hTi hX
      have e4 : decide ((-1 : Int) < 0) = true := by decide
      clear hTi b7 q1
      go_wp2_with fail
      refine TI.mono ?_
      rintro e v2 ⟨rfl, hk2⟩
      have r2 := ROOT.out v2 hk2
      have HK2 : Hid (Kept (fun k => k < w.heap.size) w v2) := HKw.out.trans (hk2.mono fun k h => Nat.lt_of_lt_of_le h HKw.out.size)
      clear TI hk2
      go_wp2_with (go_at_call 26; refine r2.mono ?_; rintro e v3 ⟨rfl, hk3⟩)
      go_ret
      exact ⟨by simp, HK2.out.trans (hk3.mono fun k h => Nat.lt_of_lt_of_le h HK2.out.size)⟩
    · subst hu1
      have e4 : decide ((u : Int) < 0) = false := decide_eq_false (by omega)
      have hTu : TopT M u t := by
        obtain ⟨t', -, h1, -⟩ := HG.out.inv.topT _ u (Nat.lt_succ_self _) hun
        rw [HT.out.one (h1.of_up HUP.out)]
        exact h1
      obtain ⟨s, -, hS, -⟩ := HG.out.inv.good.top _ u (Nat.lt_succ_self _) hun
      have q2 := calls_quiet (V := V1) (fun X hX => GV.out.top (by decide) hun hTu hX)
      have q3 := calls_quiet (V := V1) (fun X hX => GV.out.root (by decide) HIN.out (.up HUP.out hS) hX)
      have q4 := calls_quiet (V := V1) (fun X hX => GV.out.root (by decide) hun hS hX)
      have d4 := fun d os => cell_regrown b4 d os
      clear hTu hS b7 TI
      go_upto_region 12 with fail
      refine wp_region_quiet_below (by kernel_rfl) (by kernel_rfl) ?_
      repeat (go_big_quiet_step (first | with_reducible exact q1 _ _ | with_reducible exact q2 _ _ | with_reducible exact q3 _ _ | with_reducible exact q4 _ _))
      refine wpQuiet_nil ?_
      intro _ hw'
      obtain ⟨⟨dq, osq⟩, hw''⟩ := hw'
      subst hw''
      go_wp2
      go_ret
      exact ⟨by simp, HKw.out.trans ((Below.kept (below_regrown V1 dq osq)).mono fun k h => Nat.lt_of_lt_of_le h HKw.out.size)⟩
set_option maxRecDepth 20000 in
theorem otop_no (a : Option Addr) (n c : Nat) (w : World) (za : Int) (rh : Calls Tryz.prog 20 #[.slice a n c] w fun e w' => e = .returned (.bool true) ∧ Kept (fun k => k < w.heap.size) w w') :
    Calls Tryz.prog 3 #[.slice a n c, .int .u16 za] w fun e w' => e = .returned (.bool true) ∧ Kept (fun k => k < w.heap.size) w w' := by
  go_enter Tryz.func3, Tryz.ntmps3
  go_wp2_with fail
  refine rh.mono ?_
  rintro e w1 ⟨rfl, k1⟩
  have rk0 := oknown_any w1
  clear rh
  go_wp2_with (go_at_call 21; refine rk0.mono ?_; rintro e w2 ⟨rfl, k2⟩)
  go_ret
  exact ⟨rfl, k1.trans (k2.mono fun k h => Nat.lt_of_lt_of_le h k1.size)⟩
end Go.Proofs.YtbhfnbplbkncmaaGreat
