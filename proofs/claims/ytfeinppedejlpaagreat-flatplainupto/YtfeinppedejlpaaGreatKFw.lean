/-
  The document's own flat: Kids, Up, Walk.
-/
import Derived.Test.YtfeinppedejlpaaGreatKFd
import Derived.Test.YtfeinppedejlpaaGreatKLj
import Derived.Test.YtfeinppedejlpaaGreatKFa
namespace Go.Proofs.YtfeinppedejlpaaGreat
set_option maxRecDepth 100000
open Go.RowKit Go.Sort
set_option linter.unusedVariables false
set_option linter.unusedSimpArgs false
set_option maxRecDepth 20000
set_option maxHeartbeats 4000000
theorem zs3 {P : Program} {w w' : World} {o : Oper} {a : Act} {Kn : Act -> World -> Prop} {Q : Exit -> Act -> World -> Prop} (s x : Operand) (t tx : TypeId)
  (ho : o.op = .call { callee := .builtin .append, args := #[s, x], argTypes := #[t, tx] }) (vs vx v : Value) (hs : a.eval s = vs) (hx : a.eval x = vx)
  (hr : (Builtin.append_ #[t, tx] o.type #[vs, vx]).run P w = .ok v w') (h : Kn (a.put o.dst v) w') : Oper.wp P o a w Kn Q := by
 unfold Oper.wp execOp
 simp only [ho, resolve, invoke, builtin, Sem.run_bind, Sem.run_pure, Result.andThen_ok, List.map_toArray, List.map_cons, List.map_nil, hs, hx, hr]
 exact h
section
variable {K : Nat -> Prop} {w : World} {p : Nat} {M : Dm} {R G : Nat -> List Nat} {rk : Nat -> Nat}
theorem Rr.nodes (h : Rr K w p M R G rk) {i j : Nat} (hi : i < M.n) (hj : j < M.n) : ∃ g nc ka kc la lc, ∀ Y, Kept (fun k => k < w.heap.size) w Y -> Zi2 M R p g nc i ka kc w.heap.size Y /\ Zi2 M R p g nc j la lc w.heap.size Y := by
 obtain ⟨g, nc, ka, kc, h1⟩ := h.r.nodeAt hi
 obtain ⟨g2, nc2, la, lc, h2⟩ := h.r.nodeAt hj
 have e := (h1 w (Kept.refl _ _)).c1.symm.trans (h2 w (Kept.refl _ _)).c1
 have e2 : g = g2 /\ nc = nc2 := by simpa using e
 obtain ⟨rfl, rfl⟩ := e2
 exact ⟨g, nc, ka, kc, la, lc, fun Y hY => ⟨h1 Y hY, h2 Y hY⟩⟩
theorem zn5 (h : Rr K w p M R G rk) {i : Nat} (hi : i < M.n) : (R i).length <= 100000 :=
 Nat.le_trans (za4 M.n _ (h.inv.good.wf.nodup i hi) (fun x hx => h.inv.good.wf.lt i hi x hx)) h.le
theorem Rr.fkids (h : Rr K w p M R G rk) (z : Int) : Calls Tryz.prog 46 #[.pointer (some ⟨p, 0, none⟩), .int .i64 z] w (Lst w (fKI M R G z)) := by
 by_cases c : z < 0 \/ (M.n : Int) <= z
 ·have hE : fKI M R G z = [] := by unfold fKI; rw [if_pos c]
  rw [hE]
  obtain ⟨A, hY⟩ := h.r
  have c1 := hY.c1
  obtain ⟨m, hm⟩ : ∃ m, M.n = m := ⟨_, rfl⟩
  rw [hm] at c1 c
  clear hY h hm hE
  by_cases h0 : z < 0
  ·have e0 : decide (z < 0) = true := decide_eq_true h0
   clear c h0
   go_enter Tryz.func46, Tryz.ntmps46
   go_wp2
   go_ret
   exact Lst.nil w _ (Kept.refl _ _)
  ·have e0 : decide (z < 0) = false := decide_eq_false h0
   have e1 : decide (z >= (m : Int)) = true := decide_eq_true (by omega)
   clear c h0
   go_enter Tryz.func46, Tryz.ntmps46
   go_wp2
   go_ret
   exact Lst.nil w _ (Kept.refl _ _)
 ·obtain ⟨i, rfl⟩ : ∃ i : Nat, z = (i : Int) := ⟨z.toNat, by omega⟩
  have hi : i < M.n := by omega
  rw [zex hi]
  have hle := h.le
  have e0 : decide ((i : Int) < 0) = false := decide_eq_false (by omega)
  have e1 : decide ((i : Int) >= (M.n : Int)) = false := decide_eq_false (by omega)
  rcases h.inv.core.shad i hi with hs | ⟨s, hsn, hs, _⟩
  ·obtain ⟨g, nc, ka, kc, hN⟩ := h.r.nodeAt hi
   have ra := h.asg_in hi
   have hA := hN w (Kept.refl _ _)
   have c1 := hA.c1
   have c6 := hA.c6
   rw [hs] at c6
   have HN : Hid (∀ Y, Kept (fun k => k < w.heap.size) w Y -> Zi2 M R p g nc i ka kc w.heap.size Y) := hN
   have HRL : Hid ((R i).length <= 100000) := zn5 h hi
   have HFK : Hid (fK M R G i = if za8 M R G i = [] then R i else za8 M R G i) := by
    unfold fK; rw [if_neg (by rw [hs]; simp)]; exact rfl
   obtain ⟨L, hL⟩ : ∃ L, za8 M R G i = L := ⟨_, rfl⟩
   have HL : Hid (za8 M R G i = L) := hL
   rw [hL] at ra
   rw [HFK.out, hL]
   obtain ⟨m, hm⟩ : ∃ m, M.n = m := ⟨_, rfl⟩
   have HM : Hid (M.n = m) := hm
   rw [hm] at c1 hi hle e1
   clear h hs hN hA hL hm c
   by_cases hl0 : L = []
   ·subst hl0
    rw [if_pos rfl]
    obtain ⟨kl, hkl⟩ : ∃ kl, (R i).length = kl := ⟨_, rfl⟩
    have HKL : Hid ((R i).length = kl) := hkl
    have HK9 : Hid (kl <= 100000) := by rw [<- hkl]; exact HRL.out
    clear hkl
    go_enter Tryz.func46, Tryz.ntmps46
    go_wp2_with fail
    refine ra.mono ?_
    rintro e w2 ⟨la, lc, rfl, hLO, hk2⟩
    have hA2 := HN.out w2 hk2
    have c1' := hA2.c1
    have c5 := hA2.c5
    rw [HM.out] at c1'
    rw [HKL.out] at c5
    obtain ⟨ao', c', w', hrun, hR⟩ := zk5 kc hA2.kid HKL.out HK9.out
    have HR : Hid (Lst w2 (R i) (.returned (.slice ao' kl c')) w') := hR
    have HK2 : Hid (Kept (fun k => k < w.heap.size) w w2) := hk2
    clear ra hLO hk2 hA2 hR c1 c6
    have e2 : decide (((0 : Nat) : Int) > 0) = false := by decide
    go_wp2_with (at_builtin; refine zae (w' := w') rfl (.tmp 52) (.tmp 60) 33 33 rfl _ _ (.slice ao' kl c') rfl rfl hrun ?_)
    go_ret
    exact Lst.on HR.out HK2.out
   ·rw [if_neg hl0]
    have hlp : 0 < L.length := List.length_pos_iff.2 hl0
    obtain ⟨ll, hll⟩ : ∃ ll, L.length = ll := ⟨_, rfl⟩
    have HLL : Hid (L.length = ll) := hll
    rw [hll] at hlp
    have e2 : decide ((ll : Int) > 0) = true := decide_eq_true (by omega)
    clear hl0 hll
    go_enter Tryz.func46, Tryz.ntmps46
    go_wp2_with fail
    refine ra.mono ?_
    rintro e w2 ⟨la, lc, rfl, hLO, hk2⟩
    have HR : Hid (Lst w L (.returned (.slice la ll lc)) w2) := by
     refine (show Hid _ from ?_)
     rw [<- HLL.out]
     exact ⟨la, lc, rfl, hLO, hk2⟩
    rw [HLL.out]
    clear ra hLO hk2
    go_wp2
    go_ret
    exact HR.out
  ·obtain ⟨g, nc, ka, kc, la, lc, hN⟩ := h.nodes hi hsn
   have hKD : Kept (fun k => k < w.heap.size) w w.drew := (Kept.refl _ w).drew
   have hA := (hN w (Kept.refl _ _)).1
   have hB := (hN w.drew hKD).2
   have c1 := hA.c1
   have c6 := hA.c6
   rw [hs] at c6
   have hFK : fK M R G i = R s := by
    unfold fK; rw [if_pos (by rw [hs]; omega), hs, Int.toNat_natCast]
   rw [hFK]
   have hrl := zn5 h hsn
   obtain ⟨kl, hkl⟩ : ∃ kl, (R s).length = kl := ⟨_, rfl⟩
   rw [hkl] at hrl
   obtain ⟨ao', c', w', hrun, hR⟩ := zk5 lc hB.kid hkl hrl
   have HR : Hid (Lst w.drew (R s) (.returned (.slice ao' kl c')) w') := hR
   have HKD : Hid (Kept (fun k => k < w.heap.size) w w.drew) := hKD
   have HKW : Hid (Kept (fun k => k < w.heap.size) w w') := by
    obtain ⟨_, _, _, _, hk⟩ := hR
    exact (show Hid _ from kt hKD hk)
   obtain ⟨m, hm⟩ : ∃ m, M.n = m := ⟨_, rfl⟩
   have HC1 : Hid (∀ Y, Kept (fun k => k < w.heap.size) w Y -> Y.cell? ⟨p, 1, none⟩ = some (.slice (some ⟨g, 0, none⟩) m nc)) := fun Y hY => by rw [<- hm]; exact (hN Y hY).1.c1
   have HC6 : Hid (∀ Y, Kept (fun k => k < w.heap.size) w Y -> Y.cell? ⟨g, i * 14 + 6, none⟩ = some (.int .i64 (s : Int))) := fun Y hY => by rw [<- hs]; exact (hN Y hY).1.c6
   have HC5 : Hid (∀ Y, Kept (fun k => k < w.heap.size) w Y -> Y.cell? ⟨g, s * 14 + 5, none⟩ = some (.slice la kl lc)) := fun Y hY => by rw [<- hkl]; exact (hN Y hY).2.c5
   rw [hm] at c1 hi hle e1 hsn
   have e2 : decide ((s : Int) >= 0) = true := decide_eq_true (by omega)
   have hs9 : s <= 100000 := by omega
   clear h hs hN hA hB hFK hkl hR hm c hKD
   go_enter Tryz.func46, Tryz.ntmps46
   go_upto_region 5 with fail
   refine wp_region_held_drew (S := fun Y => Kept (fun k => k < w.heap.size) w Y) (by kernel_rfl) HKD.out (fun hHeld => ?_)
   refine tkH 0 28 (.slice none 0 0) rfl rfl (by kernel_rfl) (by rfl) (by intro Y hY; go_simp; try with_reducible rfl) (fun _ _ _ h => h) hHeld ?_
   try simp only [Act.put, List.setIfInBounds_toArray, List.set_cons_zero, List.set_cons_succ]
   refine tkH 1 29 (.pointer (some ⟨p, 0, none⟩)) rfl rfl (by kernel_rfl) (by rfl) (by intro Y hY; go_simp; try with_reducible rfl) (fun _ _ _ h => h) hHeld ?_
   try simp only [Act.put, List.setIfInBounds_toArray, List.set_cons_zero, List.set_cons_succ]
   refine tkH 2 30 (.pointer (some ⟨p, 0, none⟩)) rfl rfl (by kernel_rfl) (by rfl) (by intro Y hY; go_simp; try with_reducible rfl) (fun _ _ _ h => h) hHeld ?_
   try simp only [Act.put, List.setIfInBounds_toArray, List.set_cons_zero, List.set_cons_succ]
   refine tkH 3 31 (.pointer (some ⟨p, 1, none⟩)) rfl rfl (by kernel_rfl) (by rfl) (by intro Y hY; go_simp; try with_reducible rfl) (fun _ _ _ h => h) hHeld ?_
   try simp only [Act.put, List.setIfInBounds_toArray, List.set_cons_zero, List.set_cons_succ]
   refine tkH 4 32 (.slice (some ⟨g, 0, none⟩) m nc) rfl rfl (by kernel_rfl) (by rfl) (by intro Y hY; have hc := HC1.out Y hY; go_simp; try with_reducible rfl) (fun _ _ _ h => h) hHeld ?_
   try simp only [Act.put, List.setIfInBounds_toArray, List.set_cons_zero, List.set_cons_succ]
   refine tkH 5 33 (.pointer (some ⟨p, 0, none⟩)) rfl rfl (by kernel_rfl) (by rfl) (by intro Y hY; go_simp; try with_reducible rfl) (fun _ _ _ h => h) hHeld ?_
   try simp only [Act.put, List.setIfInBounds_toArray, List.set_cons_zero, List.set_cons_succ]
   refine tkH 6 34 (.pointer (some ⟨p, 0, none⟩)) rfl rfl (by kernel_rfl) (by rfl) (by intro Y hY; go_simp; try with_reducible rfl) (fun _ _ _ h => h) hHeld ?_
   try simp only [Act.put, List.setIfInBounds_toArray, List.set_cons_zero, List.set_cons_succ]
   refine tkH 7 35 (.pointer (some ⟨p, 1, none⟩)) rfl rfl (by kernel_rfl) (by rfl) (by intro Y hY; go_simp; try with_reducible rfl) (fun _ _ _ h => h) hHeld ?_
   try simp only [Act.put, List.setIfInBounds_toArray, List.set_cons_zero, List.set_cons_succ]
   refine tkH 8 36 (.slice (some ⟨g, 0, none⟩) m nc) rfl rfl (by kernel_rfl) (by rfl) (by intro Y hY; have hc := HC1.out Y hY; go_simp; try with_reducible rfl) (fun _ _ _ h => h) hHeld ?_
   try simp only [Act.put, List.setIfInBounds_toArray, List.set_cons_zero, List.set_cons_succ]
   refine tkH 9 37 (.int .i64 (i : Int)) rfl rfl (by kernel_rfl) (by rfl) (by intro Y hY; go_simp; try with_reducible rfl) (fun _ _ _ h => h) hHeld ?_
   try simp only [Act.put, List.setIfInBounds_toArray, List.set_cons_zero, List.set_cons_succ]
   refine tkH 10 38 (.pointer (some ⟨g, i * 14, none⟩)) rfl rfl (by kernel_rfl) (by rfl) (by intro Y hY; go_simp; try with_reducible rfl) (fun _ _ _ h => h) hHeld ?_
   try simp only [Act.put, List.setIfInBounds_toArray, List.set_cons_zero, List.set_cons_succ]
   refine tkH 11 39 (.pointer (some ⟨g, i * 14 + 6, none⟩)) rfl rfl (by kernel_rfl) (by rfl) (by intro Y hY; go_simp; try with_reducible rfl) (fun _ _ _ h => h) hHeld ?_
   try simp only [Act.put, List.setIfInBounds_toArray, List.set_cons_zero, List.set_cons_succ]
   refine tkH 12 40 (.int .i64 (s : Int)) rfl rfl (by kernel_rfl) (by rfl) (by intro Y hY; have hc := HC6.out Y hY; go_simp; try with_reducible rfl) (fun _ _ _ h => h) hHeld ?_
   try simp only [Act.put, List.setIfInBounds_toArray, List.set_cons_zero, List.set_cons_succ]
   refine tkH 13 41 (.pointer (some ⟨g, s * 14, none⟩)) rfl rfl (by kernel_rfl) (by rfl) (by intro Y hY; go_simp; try with_reducible rfl) (fun _ _ _ h => h) hHeld ?_
   try simp only [Act.put, List.setIfInBounds_toArray, List.set_cons_zero, List.set_cons_succ]
   refine tkH 14 42 (.pointer (some ⟨g, s * 14 + 5, none⟩)) rfl rfl (by kernel_rfl) (by rfl) (by intro Y hY; go_simp; try with_reducible rfl) (fun _ _ _ h => h) hHeld ?_
   try simp only [Act.put, List.setIfInBounds_toArray, List.set_cons_zero, List.set_cons_succ]
   refine tkH 15 43 (.slice la kl lc) rfl rfl (by kernel_rfl) (by rfl) (by intro Y hY; have hc := HC5.out Y hY; go_simp; try with_reducible rfl) (fun _ _ _ h => h) hHeld ?_
   try simp only [Act.put, List.setIfInBounds_toArray, List.set_cons_zero, List.set_cons_succ]
   refine opZ 16 rfl (by kernel_rfl) (by rfl) (fun K' hK => ?_)
   refine zs3 (w' := w') (.tmp 28) (.tmp 43) 33 33 rfl _ _ (.slice ao' kl c') rfl rfl hrun ?_
   show K' (Act.put _ (some 44) (.slice ao' kl c')) w'
   refine hK.out _ _ HKW.out (fun hHeld => ?_)
   clear hK
   try simp only [Act.put, List.setIfInBounds_toArray, List.set_cons_zero, List.set_cons_succ]
   refine tkH 17 4 (.slice ao' kl c') rfl rfl (by kernel_rfl) (by rfl) (by intro Y hY; go_simp; try with_reducible rfl) (fun _ _ _ h => h) hHeld ?_
   try simp only [Act.put, List.setIfInBounds_toArray, List.set_cons_zero, List.set_cons_succ]
   refine wpAnyH_done (by kernel_rfl) ?_ _
   go_wp2
   go_ret
   exact Lst.on HR.out HKD.out
end
end Go.Proofs.YtfeinppedejlpaaGreat
