/-
  The copier, function by function: makeLike, makeRoot, put, counting and not; copyKids over what it calls.
-/
import Derived.Test.YtfeinppedejlpaaGreatNR2
import Derived.Test.YtfeinppedejlpaaGreatNOa
import Derived.BigQuiet
namespace Go.Proofs.YtfeinppedejlpaaGreat
set_option linter.unusedVariables false
set_option maxRecDepth 100000
set_option maxHeartbeats 8000000
open Go.RowKit
def Cop (w : World) (b p : Nat) (cg : Bool) (n : Nat) : Prop := w.heap[b]? = some (.cells #[.pointer (some ⟨p, 0, none⟩), .bool cg, .int .i64 (n : Int)] 143 (0, 0))
section
variable {K : Nat -> Prop} {w w' : World} {b p n : Nat} {cg : Bool}
theorem Cop.c0 (h : Cop w b p cg n) : w.cell? ⟨b, 0, none⟩ = some (.pointer (some ⟨p, 0, none⟩)) := by rw [zaa h]; rfl
theorem Cop.c1 (h : Cop w b p cg n) : w.cell? ⟨b, 1, none⟩ = some (.bool cg) := by rw [zaa h]; rfl
theorem Cop.c2 (h : Cop w b p cg n) : w.cell? ⟨b, 2, none⟩ = some (.int .i64 (n : Int)) := by rw [zaa h]; rfl
theorem Cop.fz (h : Cop w b p cg n) : w.frozen? ⟨b, 2, none⟩ = false := zao h 2
theorem Cop.lt (h : Cop w b p cg n) : b < w.heap.size := zad h
theorem Cop.kept (h : Cop w b p cg n) (hk : Kept K w w') (hb : K b) : Cop w' b p cg n := by unfold Cop; rw [hk.block b hb]; exact h
theorem Cop.set (h : Cop w b p cg n) (m : Nat) : Cop (w.setCell ⟨b, 2, none⟩ (.int .i64 (m : Int))) b p cg m := zai h 2 _
theorem Kept.but (hk : Kept (fun k => k < w.heap.size) w w') (m : Int) : Kept (fun k => k < w.heap.size /\ k ≠ b) w (w'.setCell ⟨b, 2, none⟩ (.int .i64 m)) :=
 (hk.mono fun k h => h.1).setCell (p := ⟨b, 2, none⟩) (fun hh => hh.2 rfl) _
end
theorem zkt (kd : Nat) (S D : ByteArray) (ao : Option Addr) (an c : Nat) (up : Int) (ko : Option Addr) (kn kc : Nat) (sh ho co : Int) (f : Fg) (b p n : Nat) (hn : n <= 1000000) (m : Nat) (hm : (1 + if co = -1 then 0 else 1) = m) (w : World) (h : Cop w b p true n) :
  Calls Tryz.prog 188 #[.pointer (some ⟨b, 0, none⟩), .agg (zcf kd S D ao an c up ko kn kc sh ho co f)] w fun e w' => e = .returned (.int .i64 (-1)) /\ Cop w' b p true (n + m) /\ Kept (fun k => k < w.heap.size /\ k ≠ b) w w' := by
 obtain ⟨V, N, hV, hN, hb, hk, hs⟩ := zaz w (zcf kd S D ao an c up ko kn kc sh ho co f)   58
 have c8 : V.cell? ⟨N, 8, none⟩ = some (.int .i64 co) := by rw [zaa hb]; rfl
 have hC : Cop V b p true n := h.kept hk h.lt
 have hbN : b ≠ N := by have := h.lt; omega
 have hC1 := hC.set (n + 1)
 have kb1 : Kept (fun k => k < w.heap.size /\ k ≠ b) w (V.setCell ⟨b, 2, none⟩ (.int .i64 ((n + 1 : Nat) : Int))) := hk.but _
 have HV : Hid (w.alloc (.cells (zcf kd S D ao an c up ko kn kc sh ho co f) 58) = V) := hV
 have HN : Hid (w.heap.size = N) := hN
 obtain ⟨W1, hW1⟩ : ∃ W, V.setCell ⟨b, 2, none⟩ (.int .i64 ((n + 1 : Nat) : Int)) = W := ⟨_, rfl⟩
 have c8' : W1.cell? ⟨N, 8, none⟩ = some (.int .i64 co) := by
  rw [<- hW1]; exact (((Kept.refl (fun k => k ≠ b) V).setCell (p := ⟨b, 2, none⟩) (fun hh => hh rfl) _).cell (p := ⟨N, 8, none⟩) (fun e => hbN e.symm)).trans c8
 rw [hW1] at hC1 kb1
 have hV2 := hC.c2
 have hVz := hC.fz
 have h12 := hC1.c2
 have h11 := hC1.c1
 have h1z := hC1.fz
 have HW1 : Hid (V.setCell ⟨b, 2, none⟩ (.int .i64 ((n : Int) + 1)) = W1) := hW1
 have HK1 : Hid (Kept (fun k => k < w.heap.size /\ k ≠ b) w W1) := kb1
 have HC1 : Hid (Cop W1 b p true (n + 1)) := hC1
 by_cases hc : co = -1
 ·subst hc
  have HM : Hid (m = 1) := hm.symm
  clear hm
  clear hV hN hb hk hs hC hC1 kb1 hW1 c8 h hbN
  go_enter Tryz.func188, Tryz.ntmps188
  go_upto_region 1 with fail
  rw [HV.out, HN.out]
  clear HV HN
  go_upto_region 2 with fail
  rw [HW1.out]
  clear HW1 hV2 hVz
  go_wp2
  go_ret
  exact ⟨rfl, by rw [HM.out]; exact HC1.out, HK1.out⟩
 ·have hq : (co != -1) = true := by simpa using hc
  have hC2 := hC1.set (n + 2)
  have kb2 : Kept (fun k => k < w.heap.size /\ k ≠ b) w (W1.setCell ⟨b, 2, none⟩ (.int .i64 ((n + 2 : Nat) : Int))) := kb1.setCell (p := ⟨b, 2, none⟩) (fun hh => hh.2 rfl) _
  obtain ⟨W2, hW2⟩ : ∃ W, W1.setCell ⟨b, 2, none⟩ (.int .i64 ((n + 2 : Nat) : Int)) = W := ⟨_, rfl⟩
  rw [hW2] at hC2 kb2
  have h21 := hC2.c1
  have HW2 : Hid (W1.setCell ⟨b, 2, none⟩ (.int .i64 ((n : Int) + 1 + 1)) = W2) := hW2
  have HK2 : Hid (Kept (fun k => k < w.heap.size /\ k ≠ b) w W2) := kb2
  have HC2 : Hid (Cop W2 b p true (n + m)) := by rw [<- hm, if_neg hc]; exact hC2
  clear hV hN hb hk hs hC hC1 hC2 kb1 kb2 hW1 hW2 c8 h hbN hc hm
  go_enter Tryz.func188, Tryz.ntmps188
  go_upto_region 1 with fail
  rw [HV.out, HN.out]
  clear HV HN
  go_upto_region 2 with fail
  rw [HW1.out]
  clear HW1 hV2 hVz
  go_upto_region 4 with fail
  rw [HW2.out]
  clear HW2 h12 h11 h1z
  go_wp2
  go_ret
  exact ⟨rfl, HC2.out, HK2.out⟩
theorem zfu (cs : Array Value) (h : cs.size = 14) : (Tryz.prog.info? 58).map (·.size) = some cs.size := by rw [h]; kernel_rfl
theorem ze0 {o : Oper} {a : Act} {X : World} {x : Operand} {N : Nat} {cs : Array Value} (ho : o.op = .load 58 x) (hx : a.eval x = .pointer (some ⟨N, 0, none⟩)) (hb : X.heap[N]? = some (.cells cs 58 (0, 0))) (hc : cs.size = 14) :
  (execOp a.eval o).run Tryz.prog X = .ok (.value (.agg cs)) X := by
 unfold execOp
 simp only [ho, hx, Instr.loadAt, Instr.sureAddr, Sem.run_bind, Sem.run_pure, Result.andThen_ok, run_loadVar_row X N 58 58 cs (0, 0) _ hb Tryz.underlying58 rfl (zfu cs hc)]
theorem znf (args : Array Value) (X : World) : (callFunc 68 args).run Tryz.prog X = .ok (.enter 68 args) X := za0 Tryz.func68 (by kernel_rfl) (c := _) rfl args X
theorem zk7 (cs : Array Value) (co z : Int) (hsz : cs.size = 14) (h8 : cs[8]? = some (.int .i64 co)) (b p n m : Nat) (hm : (1 + if co = -1 then 0 else 1) = m) (hn : n <= 1000000) (w : World) (h : Cop w b p false n) (Q : World -> Prop)
  (rm : ∀ X N, Cop X b p false (n + m) -> Kept (fun k => k < w.heap.size /\ k ≠ b) w X -> w.heap.size <= N -> X.heap[N]? = some (.cells cs 58 (0, 0)) -> Calls Tryz.prog 68 #[.pointer (some ⟨p, 0, none⟩), .agg cs] X fun e w' => e = .returned (.tuple #[.int .i64 z, .int .u16 0]) /\ Cop w' b p false (n + m) /\ w'.heap[N]? = some (.cells cs 58 (0, 0)) /\ Q w') :
  Calls Tryz.prog 188 #[.pointer (some ⟨b, 0, none⟩), .agg cs] w fun e w' => e = .returned (.int .i64 z) /\ Cop w' b p false (n + m) /\ Q w' := by
 obtain ⟨V, N, hV, hN, hb, hk, hs⟩ := zaz w cs   58
 have c8 : V.cell? ⟨N, 8, none⟩ = some (.int .i64 co) := by rw [zaa hb]; exact h8
 have hC : Cop V b p false n := h.kept hk h.lt
 have hbN : b ≠ N := by have := h.lt; omega
 have hC1 := hC.set (n + 1)
 have kb1 : Kept (fun k => k < w.heap.size /\ k ≠ b) w (V.setCell ⟨b, 2, none⟩ (.int .i64 ((n + 1 : Nat) : Int))) := hk.but _
 have HV : Hid (w.alloc (.cells cs 58) = V) := hV
 have HN : Hid (w.heap.size = N) := hN
 obtain ⟨W1, hW1⟩ : ∃ W, V.setCell ⟨b, 2, none⟩ (.int .i64 ((n + 1 : Nat) : Int)) = W := ⟨_, rfl⟩
 have kk1 : Kept (fun k => k ≠ b) V W1 := by rw [<- hW1]; exact (Kept.refl (fun k => k ≠ b) V).setCell (p := ⟨b, 2, none⟩) (fun hh => hh rfl) _
 have c8' : W1.cell? ⟨N, 8, none⟩ = some (.int .i64 co) := (kk1.cell (p := ⟨N, 8, none⟩) (fun e => hbN e.symm)).trans c8
 have hb1 : W1.heap[N]? = some (.cells cs 58 (0, 0)) := (kk1.block N (fun e => hbN e.symm)).trans hb
 rw [hW1] at hC1 kb1
 have hV2 := hC.c2
 have hVz := hC.fz
 have HW1 : Hid (V.setCell ⟨b, 2, none⟩ (.int .i64 ((n : Int) + 1)) = W1) := hW1
 by_cases hc : co = -1
 ·subst hc
  have h11 := hC1.c1
  have hm1 : m = 1 := hm.symm
  subst hm1
  have r := rm W1.drew N hC1 kb1.drew (Nat.le_of_eq hN) hb1
  have HCX : Hid (Cop W1.drew b p false (n + 1)) := hC1
  have HBX : Hid (W1.drew.heap[N]? = some (.cells cs 58 (0, 0))) := hb1
  clear hV hN hb hk hs hC hC1 kb1 hW1 c8 h hbN kk1 rm hb1 hm h8
  go_enter Tryz.func188, Tryz.ntmps188
  go_upto_region 1 with fail
  rw [HV.out, HN.out]
  clear HV HN
  go_upto_region 2 with fail
  rw [HW1.out]
  clear HW1 hV2 hVz
  go_upto_region 6 with fail
  refine wp_region_held_drew (S := fun Y => Cop Y b p false (n + 1) /\ Y.heap[N]? = some (.cells cs 58 (0, 0))) (by kernel_rfl) ⟨HCX.out, HBX.out⟩ (fun hHeld => ?_)
  refine tkH 0 29 (.pointer (some ⟨b, 0, none⟩)) rfl rfl (by kernel_rfl) (by rfl) (by intro Y hY; go_simp; try with_reducible rfl) (fun _ _ _ h => h) hHeld ?_
  try simp only [Act.put, List.setIfInBounds_toArray, List.set_cons_zero, List.set_cons_succ]
  refine tkH 1 30 (.pointer (some ⟨b, 0, none⟩)) rfl rfl (by kernel_rfl) (by rfl) (by intro Y hY; go_simp; try with_reducible rfl) (fun _ _ _ h => h) hHeld ?_
  try simp only [Act.put, List.setIfInBounds_toArray, List.set_cons_zero, List.set_cons_succ]
  refine tkH 2 31 (.pointer (some ⟨b, 0, none⟩)) rfl rfl (by kernel_rfl) (by rfl) (by intro Y hY; go_simp; try with_reducible rfl) (fun _ _ _ h => h) hHeld ?_
  try simp only [Act.put, List.setIfInBounds_toArray, List.set_cons_zero, List.set_cons_succ]
  refine tkH 3 32 (.pointer (some ⟨p, 0, none⟩)) rfl rfl (by kernel_rfl) (by rfl) (by intro Y hY; have hc := hY.1.c0; go_simp; try with_reducible rfl) (fun _ _ _ h => h) hHeld ?_
  try simp only [Act.put, List.setIfInBounds_toArray, List.set_cons_zero, List.set_cons_succ]
  refine tkH 4 33 (.agg cs) rfl rfl (by kernel_rfl) (by rfl) (by intro Y hY; exact ze0 rfl rfl hY.2 hsz) (fun _ _ _ h => h) hHeld ?_
  try simp only [Act.put, List.setIfInBounds_toArray, List.set_cons_zero, List.set_cons_succ]
  refine clH 5 34 68 #[.pointer (some ⟨p, 0, none⟩), .agg cs] rfl rfl (by kernel_rfl) (by rfl) rfl (by first | rfl | (simp [Act.eval]; done) | (simp [Act.eval, Act.put]; done)) (znf _ _) r ?_
  rintro e Y ⟨rfl, hy1, hy2, hy3⟩
  refine ⟨_, rfl, ⟨hy1, hy2⟩, fun hHeld2 => ?_⟩
  replace hHeld := hHeld2
  clear hHeld2
  try simp only [Act.put, List.setIfInBounds_toArray, List.set_cons_zero, List.set_cons_succ]
  refine tkH 6 28 (.tuple #[.int .i64 z, .int .u16 0]) rfl rfl (by kernel_rfl) (by rfl) (by intro Y hY; go_simp; try with_reducible rfl) (fun _ _ _ h => h) hHeld ?_
  try simp only [Act.put, List.setIfInBounds_toArray, List.set_cons_zero, List.set_cons_succ]
  refine tkH 7 35 (.int .i64 z) rfl rfl (by kernel_rfl) (by rfl) (by intro Y hY; go_simp; try with_reducible rfl) (fun _ _ _ h => h) hHeld ?_
  try simp only [Act.put, List.setIfInBounds_toArray, List.set_cons_zero, List.set_cons_succ]
  refine tkH 8 36 (.int .u16 0) rfl rfl (by kernel_rfl) (by rfl) (by intro Y hY; go_simp; try with_reducible rfl) (fun _ _ _ h => h) hHeld ?_
  try simp only [Act.put, List.setIfInBounds_toArray, List.set_cons_zero, List.set_cons_succ]
  refine tkH 9 5 (.int .i64 z) rfl rfl (by kernel_rfl) (by rfl) (by intro Y hY; go_simp; try with_reducible rfl) (fun _ _ _ h => h) hHeld ?_
  try simp only [Act.put, List.setIfInBounds_toArray, List.set_cons_zero, List.set_cons_succ]
  refine tkH 10 6 (.int .u16 0) rfl rfl (by kernel_rfl) (by rfl) (by intro Y hY; go_simp; try with_reducible rfl) (fun _ _ _ h => h) hHeld ?_
  try simp only [Act.put, List.setIfInBounds_toArray, List.set_cons_zero, List.set_cons_succ]
  refine wpAnyH_done (by kernel_rfl) ?_ _
  go_wp2
  go_ret
  exact ⟨rfl, hy1, hy3⟩
 ·have hq : (co != -1) = true := by simpa using hc
  have hm2 : m = 2 := by rw [<- hm, if_neg hc]
  subst hm2
  have h12 := hC1.c2
  have h1z := hC1.fz
  have hC2 := hC1.set (n + 2)
  have kb2 : Kept (fun k => k < w.heap.size /\ k ≠ b) w (W1.setCell ⟨b, 2, none⟩ (.int .i64 ((n + 2 : Nat) : Int))) := kb1.setCell (p := ⟨b, 2, none⟩) (fun hh => hh.2 rfl) _
  have kk2 : Kept (fun k => k ≠ b) W1 (W1.setCell ⟨b, 2, none⟩ (.int .i64 ((n + 2 : Nat) : Int))) := (Kept.refl (fun k => k ≠ b) W1).setCell (p := ⟨b, 2, none⟩) (fun hh => hh rfl) _
  obtain ⟨W2, hW2⟩ : ∃ W, W1.setCell ⟨b, 2, none⟩ (.int .i64 ((n + 2 : Nat) : Int)) = W := ⟨_, rfl⟩
  rw [hW2] at hC2 kb2 kk2
  have hb2 : W2.heap[N]? = some (.cells cs 58 (0, 0)) := (kk2.block N (fun e => hbN e.symm)).trans hb1
  have h21 := hC2.c1
  have HW2 : Hid (W1.setCell ⟨b, 2, none⟩ (.int .i64 ((n : Int) + 1 + 1)) = W2) := hW2
  have r := rm W2.drew N hC2 kb2.drew (Nat.le_of_eq hN) hb2
  have HCX : Hid (Cop W2.drew b p false (n + 2)) := hC2
  have HBX : Hid (W2.drew.heap[N]? = some (.cells cs 58 (0, 0))) := hb2
  clear hV hN hb hk hs hC hC1 hC2 kb1 kb2 hW1 hW2 c8 h hbN hc hm kk1 kk2 rm hb1 hb2 h8
  go_enter Tryz.func188, Tryz.ntmps188
  go_upto_region 1 with fail
  rw [HV.out, HN.out]
  clear HV HN
  go_upto_region 2 with fail
  rw [HW1.out]
  clear HW1 hV2 hVz
  go_upto_region 4 with fail
  rw [HW2.out]
  clear HW2 h12 h1z
  go_upto_region 6 with fail
  refine wp_region_held_drew (S := fun Y => Cop Y b p false (n + 2) /\ Y.heap[N]? = some (.cells cs 58 (0, 0))) (by kernel_rfl) ⟨HCX.out, HBX.out⟩ (fun hHeld => ?_)
  refine tkH 0 29 (.pointer (some ⟨b, 0, none⟩)) rfl rfl (by kernel_rfl) (by rfl) (by intro Y hY; go_simp; try with_reducible rfl) (fun _ _ _ h => h) hHeld ?_
  try simp only [Act.put, List.setIfInBounds_toArray, List.set_cons_zero, List.set_cons_succ]
  refine tkH 1 30 (.pointer (some ⟨b, 0, none⟩)) rfl rfl (by kernel_rfl) (by rfl) (by intro Y hY; go_simp; try with_reducible rfl) (fun _ _ _ h => h) hHeld ?_
  try simp only [Act.put, List.setIfInBounds_toArray, List.set_cons_zero, List.set_cons_succ]
  refine tkH 2 31 (.pointer (some ⟨b, 0, none⟩)) rfl rfl (by kernel_rfl) (by rfl) (by intro Y hY; go_simp; try with_reducible rfl) (fun _ _ _ h => h) hHeld ?_
  try simp only [Act.put, List.setIfInBounds_toArray, List.set_cons_zero, List.set_cons_succ]
  refine tkH 3 32 (.pointer (some ⟨p, 0, none⟩)) rfl rfl (by kernel_rfl) (by rfl) (by intro Y hY; have hc := hY.1.c0; go_simp; try with_reducible rfl) (fun _ _ _ h => h) hHeld ?_
  try simp only [Act.put, List.setIfInBounds_toArray, List.set_cons_zero, List.set_cons_succ]
  refine tkH 4 33 (.agg cs) rfl rfl (by kernel_rfl) (by rfl) (by intro Y hY; exact ze0 rfl rfl hY.2 hsz) (fun _ _ _ h => h) hHeld ?_
  try simp only [Act.put, List.setIfInBounds_toArray, List.set_cons_zero, List.set_cons_succ]
  refine clH 5 34 68 #[.pointer (some ⟨p, 0, none⟩), .agg cs] rfl rfl (by kernel_rfl) (by rfl) rfl (by first | rfl | (simp [Act.eval]; done) | (simp [Act.eval, Act.put]; done)) (znf _ _) r ?_
  rintro e Y ⟨rfl, hy1, hy2, hy3⟩
  refine ⟨_, rfl, ⟨hy1, hy2⟩, fun hHeld2 => ?_⟩
  replace hHeld := hHeld2
  clear hHeld2
  try simp only [Act.put, List.setIfInBounds_toArray, List.set_cons_zero, List.set_cons_succ]
  refine tkH 6 28 (.tuple #[.int .i64 z, .int .u16 0]) rfl rfl (by kernel_rfl) (by rfl) (by intro Y hY; go_simp; try with_reducible rfl) (fun _ _ _ h => h) hHeld ?_
  try simp only [Act.put, List.setIfInBounds_toArray, List.set_cons_zero, List.set_cons_succ]
  refine tkH 7 35 (.int .i64 z) rfl rfl (by kernel_rfl) (by rfl) (by intro Y hY; go_simp; try with_reducible rfl) (fun _ _ _ h => h) hHeld ?_
  try simp only [Act.put, List.setIfInBounds_toArray, List.set_cons_zero, List.set_cons_succ]
  refine tkH 8 36 (.int .u16 0) rfl rfl (by kernel_rfl) (by rfl) (by intro Y hY; go_simp; try with_reducible rfl) (fun _ _ _ h => h) hHeld ?_
  try simp only [Act.put, List.setIfInBounds_toArray, List.set_cons_zero, List.set_cons_succ]
  refine tkH 9 5 (.int .i64 z) rfl rfl (by kernel_rfl) (by rfl) (by intro Y hY; go_simp; try with_reducible rfl) (fun _ _ _ h => h) hHeld ?_
  try simp only [Act.put, List.setIfInBounds_toArray, List.set_cons_zero, List.set_cons_succ]
  refine tkH 10 6 (.int .u16 0) rfl rfl (by kernel_rfl) (by rfl) (by intro Y hY; go_simp; try with_reducible rfl) (fun _ _ _ h => h) hHeld ?_
  try simp only [Act.put, List.setIfInBounds_toArray, List.set_cons_zero, List.set_cons_succ]
  refine wpAnyH_done (by kernel_rfl) ?_ _
  go_wp2
  go_ret
  exact ⟨rfl, hy1, hy3⟩
theorem zq5 (cs : Array Value) (h : cs.size = 5) : (Tryz.prog.info? 48).map (·.size) = some cs.size := by rw [h]; kernel_rfl
theorem zh4 {o : Oper} {a : Act} {X : World} {x : Operand} {N : Nat} {cs : Array Value} (ho : o.op = .load 48 x) (hx : a.eval x = .pointer (some ⟨N, 0, none⟩)) (hb : X.heap[N]? = some (.cells cs 48 (0, 0))) (hc : cs.size = 5) :
  (execOp a.eval o).run Tryz.prog X = .ok (.value (.agg cs)) X := by
 unfold execOp
 simp only [ho, hx, Instr.loadAt, Instr.sureAddr, Sem.run_bind, Sem.run_pure, Result.andThen_ok, run_loadVar_row X N 48 48 cs (0, 0) _ hb Tryz.underlying48 rfl (zq5 cs hc)]
theorem zpu (args : Array Value) (X : World) : (callFunc 69 args).run Tryz.prog X = .ok (.enter 69 args) X := za0 Tryz.func69 (by kernel_rfl) (c := _) rfl args X
theorem zj9 (cs : Array Value) (hsz : cs.size = 5) (hz : Int) (b p n : Nat) (hn : n <= 1000000) (w : World) (h : Cop w b p true n) :
  Calls Tryz.prog 241 #[.pointer (some ⟨b, 0, none⟩), .int .i64 hz, .agg cs] w fun e w' => e = .returned (.int .i64 (-1)) /\ Cop w' b p true (n + 1) /\ Kept (fun k => k < w.heap.size /\ k ≠ b) w w' := by
 obtain ⟨V, N, hV, hN, hb, hk, hs⟩ := zaz w cs   48
 have hC : Cop V b p true n := h.kept hk h.lt
 have hC1 := hC.set (n + 1)
 have kb1 : Kept (fun k => k < w.heap.size /\ k ≠ b) w (V.setCell ⟨b, 2, none⟩ (.int .i64 ((n + 1 : Nat) : Int))) := hk.but _
 have HV : Hid (w.alloc (.cells cs 48) = V) := hV
 have HN : Hid (w.heap.size = N) := hN
 obtain ⟨W1, hW1⟩ : ∃ W, V.setCell ⟨b, 2, none⟩ (.int .i64 ((n + 1 : Nat) : Int)) = W := ⟨_, rfl⟩
 rw [hW1] at hC1 kb1
 have hV2 := hC.c2
 have hVz := hC.fz
 have h11 := hC1.c1
 have HW1 : Hid (V.setCell ⟨b, 2, none⟩ (.int .i64 ((n : Int) + 1)) = W1) := hW1
 have HK1 : Hid (Kept (fun k => k < w.heap.size /\ k ≠ b) w W1) := kb1
 have HC1 : Hid (Cop W1 b p true (n + 1)) := hC1
 clear hV hN hb hk hs hC hC1 kb1 hW1 h
 go_enter Tryz.func241, Tryz.ntmps241
 go_upto_region 1 with fail
 rw [HV.out, HN.out]
 clear HV HN
 go_upto_region 2 with fail
 rw [HW1.out]
 clear HW1 hV2 hVz
 go_wp2
 go_ret
 exact ⟨rfl, HC1.out, HK1.out⟩
theorem zkx (cs : Array Value) (hz z : Int) (hsz : cs.size = 5) (b p n : Nat) (hn : n <= 1000000) (w : World) (h : Cop w b p false n) (Q : World -> Prop)
  (rm : ∀ X N, Cop X b p false (n + 1) -> Kept (fun k => k < w.heap.size /\ k ≠ b) w X -> w.heap.size <= N -> X.heap[N]? = some (.cells cs 48 (0, 0)) -> Calls Tryz.prog 69 #[.pointer (some ⟨p, 0, none⟩), .int .i64 hz, .agg cs] X fun e w' => e = .returned (.tuple #[.int .i64 z, .int .u16 0]) /\ Cop w' b p false (n + 1) /\ w'.heap[N]? = some (.cells cs 48 (0, 0)) /\ Q w') :
  Calls Tryz.prog 241 #[.pointer (some ⟨b, 0, none⟩), .int .i64 hz, .agg cs] w fun e w' => e = .returned (.int .i64 z) /\ Cop w' b p false (n + 1) /\ Q w' := by
 obtain ⟨V, N, hV, hN, hb, hk, hs⟩ := zaz w cs   48
 have hC : Cop V b p false n := h.kept hk h.lt
 have hbN : b ≠ N := by have := h.lt; omega
 have hC1 := hC.set (n + 1)
 have kb1 : Kept (fun k => k < w.heap.size /\ k ≠ b) w (V.setCell ⟨b, 2, none⟩ (.int .i64 ((n + 1 : Nat) : Int))) := hk.but _
 have HV : Hid (w.alloc (.cells cs 48) = V) := hV
 have HN : Hid (w.heap.size = N) := hN
 obtain ⟨W1, hW1⟩ : ∃ W, V.setCell ⟨b, 2, none⟩ (.int .i64 ((n + 1 : Nat) : Int)) = W := ⟨_, rfl⟩
 have kk1 : Kept (fun k => k ≠ b) V W1 := by rw [<- hW1]; exact (Kept.refl (fun k => k ≠ b) V).setCell (p := ⟨b, 2, none⟩) (fun hh => hh rfl) _
 have hb1 : W1.heap[N]? = some (.cells cs 48 (0, 0)) := (kk1.block N (fun e => hbN e.symm)).trans hb
 rw [hW1] at hC1 kb1
 have hV2 := hC.c2
 have hVz := hC.fz
 have h11 := hC1.c1
 have HW1 : Hid (V.setCell ⟨b, 2, none⟩ (.int .i64 ((n : Int) + 1)) = W1) := hW1
 have r := rm W1.drew N hC1 kb1.drew (Nat.le_of_eq hN) hb1
 have HCX : Hid (Cop W1.drew b p false (n + 1)) := hC1
 have HBX : Hid (W1.drew.heap[N]? = some (.cells cs 48 (0, 0))) := hb1
 clear hV hN hb hk hs hC hC1 kb1 hW1 h hbN kk1 rm hb1
 go_enter Tryz.func241, Tryz.ntmps241
 go_upto_region 1 with fail
 rw [HV.out, HN.out]
 clear HV HN
 go_upto_region 2 with fail
 rw [HW1.out]
 clear HW1 hV2 hVz
 go_upto_region 4 with fail
 refine wp_region_held_drew (S := fun Y => Cop Y b p false (n + 1) /\ Y.heap[N]? = some (.cells cs 48 (0, 0))) (by kernel_rfl) ⟨HCX.out, HBX.out⟩ (fun hHeld => ?_)
 refine tkH 0 21 (.pointer (some ⟨b, 0, none⟩)) rfl rfl (by kernel_rfl) (by rfl) (by intro Y hY; go_simp; try with_reducible rfl) (fun _ _ _ h => h) hHeld ?_
 try simp only [Act.put, List.setIfInBounds_toArray, List.set_cons_zero, List.set_cons_succ]
 refine tkH 1 22 (.pointer (some ⟨b, 0, none⟩)) rfl rfl (by kernel_rfl) (by rfl) (by intro Y hY; go_simp; try with_reducible rfl) (fun _ _ _ h => h) hHeld ?_
 try simp only [Act.put, List.setIfInBounds_toArray, List.set_cons_zero, List.set_cons_succ]
 refine tkH 2 23 (.pointer (some ⟨b, 0, none⟩)) rfl rfl (by kernel_rfl) (by rfl) (by intro Y hY; go_simp; try with_reducible rfl) (fun _ _ _ h => h) hHeld ?_
 try simp only [Act.put, List.setIfInBounds_toArray, List.set_cons_zero, List.set_cons_succ]
 refine tkH 3 24 (.pointer (some ⟨p, 0, none⟩)) rfl rfl (by kernel_rfl) (by rfl) (by intro Y hY; have hc := hY.1.c0; go_simp; try with_reducible rfl) (fun _ _ _ h => h) hHeld ?_
 try simp only [Act.put, List.setIfInBounds_toArray, List.set_cons_zero, List.set_cons_succ]
 refine tkH 4 25 (.int .i64 hz) rfl rfl (by kernel_rfl) (by rfl) (by intro Y hY; go_simp; try with_reducible rfl) (fun _ _ _ h => h) hHeld ?_
 try simp only [Act.put, List.setIfInBounds_toArray, List.set_cons_zero, List.set_cons_succ]
 refine tkH 5 26 (.agg cs) rfl rfl (by kernel_rfl) (by rfl) (by intro Y hY; exact zh4 rfl rfl hY.2 hsz) (fun _ _ _ h => h) hHeld ?_
 try simp only [Act.put, List.setIfInBounds_toArray, List.set_cons_zero, List.set_cons_succ]
 refine clH 6 27 69 #[.pointer (some ⟨p, 0, none⟩), .int .i64 hz, .agg cs] rfl rfl (by kernel_rfl) (by rfl) rfl (by first | rfl | (simp [Act.eval]; done) | (simp [Act.eval, Act.put]; done)) (zpu _ _) r ?_
 rintro e Y ⟨rfl, hy1, hy2, hy3⟩
 refine ⟨_, rfl, ⟨hy1, hy2⟩, fun hHeld2 => ?_⟩
 replace hHeld := hHeld2
 clear hHeld2
 try simp only [Act.put, List.setIfInBounds_toArray, List.set_cons_zero, List.set_cons_succ]
 refine tkH 7 20 (.tuple #[.int .i64 z, .int .u16 0]) rfl rfl (by kernel_rfl) (by rfl) (by intro Y hY; go_simp; try with_reducible rfl) (fun _ _ _ h => h) hHeld ?_
 try simp only [Act.put, List.setIfInBounds_toArray, List.set_cons_zero, List.set_cons_succ]
 refine tkH 8 28 (.int .i64 z) rfl rfl (by kernel_rfl) (by rfl) (by intro Y hY; go_simp; try with_reducible rfl) (fun _ _ _ h => h) hHeld ?_
 try simp only [Act.put, List.setIfInBounds_toArray, List.set_cons_zero, List.set_cons_succ]
 refine tkH 9 29 (.int .u16 0) rfl rfl (by kernel_rfl) (by rfl) (by intro Y hY; go_simp; try with_reducible rfl) (fun _ _ _ h => h) hHeld ?_
 try simp only [Act.put, List.setIfInBounds_toArray, List.set_cons_zero, List.set_cons_succ]
 refine tkH 10 7 (.int .i64 z) rfl rfl (by kernel_rfl) (by rfl) (by intro Y hY; go_simp; try with_reducible rfl) (fun _ _ _ h => h) hHeld ?_
 try simp only [Act.put, List.setIfInBounds_toArray, List.set_cons_zero, List.set_cons_succ]
 refine tkH 11 8 (.int .u16 0) rfl rfl (by kernel_rfl) (by rfl) (by intro Y hY; go_simp; try with_reducible rfl) (fun _ _ _ h => h) hHeld ?_
 try simp only [Act.put, List.setIfInBounds_toArray, List.set_cons_zero, List.set_cons_succ]
 refine wpAnyH_done (by kernel_rfl) ?_ _
 go_wp2
 go_ret
 exact ⟨rfl, hy1, hy3⟩
theorem zl8 (tz i : Int) (b p n : Nat) (w : World) (h : Cop w b p true n) :
  Calls Tryz.prog 242 #[.pointer (some ⟨b, 0, none⟩), .int .i64 tz, .int .i64 i] w fun e w' => e = .returned (.tuple #[]) /\ w' = w := by
 have h1 := h.c1
 clear h
 go_enter Tryz.func242, Tryz.ntmps242
 go_wp2
 go_end0
 exact ⟨rfl, rfl⟩
theorem zm3 (tz i z : Int) (b p n : Nat) (w : World) (h : Cop w b p false n) (Q : World -> Prop)
  (r : Calls Tryz.prog 70 #[.pointer (some ⟨p, 0, none⟩), .int .i64 tz, .int .i64 i, .int .i64 (-1)] w fun e w' => e = .returned (.int .u16 z) /\ Q w') :
  Calls Tryz.prog 242 #[.pointer (some ⟨b, 0, none⟩), .int .i64 tz, .int .i64 i] w fun e w' => e = .returned (.tuple #[]) /\ Q w' := by
 have h1 := h.c1
 have h0 := h.c0
 clear h
 go_enter Tryz.func242, Tryz.ntmps242
 go_wp2_with fail
 refine r.mono ?_
 rintro e w1 ⟨rfl, hq⟩
 have HQ : Hid (Q w1) := hq
 clear r hq h1 h0
 go_wp2
 go_end0
 exact ⟨rfl, HQ.out⟩
abbrev nV (x : Nd) (ao : Option Addr) (ac : Nat) (up : Int) (ko : Option Addr) (kn kc : Nat) : Array Value := zcf x.kind ⟨x.name.toArray⟩ ⟨x.data.toArray⟩ ao x.attrs.length ac up ko kn kc x.shadow x.host x.content x.fl
def Znc (B : Nat) (X : World) (ko : Option Addr) (l : List Nat) : Prop := ∀ j (h : j < l.length), ∃ g, ko = some ⟨g, 0, none⟩ /\ B <= g /\ g < X.heap.size /\ X.cell? ⟨g, j, none⟩ = some (.int .i64 (l[j] : Int))
theorem Znc.of {w w1 : World} {ko : Option Addr} {kc : Nat} {l : List Nat} (hQ : Zac (fun k => k < w.heap.size) w1 3 1 ko l.length kc (ivs l)) {V : World} (hk : Kept (fun k => k < w1.heap.size) w1 V) : Znc w.heap.size V ko l := fun j hj => by
 obtain ⟨g, e, hc⟩ := hQ.cell (j := j) (u := iv l[j]) (by simp [ivs, hj])
 have ho := Zac.out hQ (g := g) e
 exact ⟨g, e, Nat.le_of_not_lt ho.1, ltl ho.2 hk.size, (hk.cell (p := ⟨g, j, none⟩) ho.2).trans hc⟩
theorem zjq (b p u m : Nat) (tz : Int) (l : List Nat) (hlm : l.length = m) (hm : m <= 1000000) (x : Nd) (up : Int) (w : World) (Post : World -> Prop)
  (c0 : w.cell? ⟨b, 0, none⟩ = some (.pointer (some ⟨p, 0, none⟩)))
  (r9 : Calls Tryz.prog 41 #[.pointer (some ⟨p, 0, none⟩), .int .i64 (u : Int)] w fun e w' => Told w x up l e w')
  (hs : ∀ V ko, Kept (fun k => k < w.heap.size) w V -> Znc w.heap.size V ko l -> ∃ I : Nat -> World -> Prop, I 0 V /\ (∀ j (h : j < l.length) X, I j X -> Znc w.heap.size X ko l /\ Calls Tryz.prog 116 #[.pointer (some ⟨b, 0, none⟩), .int .i64 (l[j] : Int), .bool true] X fun e Y => ∃ c : Int, e = .returned (.int .i64 c) /\ Calls Tryz.prog 242 #[.pointer (some ⟨b, 0, none⟩), .int .i64 tz, .int .i64 c] Y fun e' Z => e' = .returned (.tuple #[]) /\ I (j + 1) Z) /\ ∀ Z, I l.length Z -> Post Z) :
  Calls Tryz.prog 190 #[.pointer (some ⟨b, 0, none⟩), .int .i64 (u : Int), .int .i64 tz] w fun e w' => e = .returned (.tuple #[]) /\ Post w' := by
 have HS : Hid (∀ V ko, Kept (fun k => k < w.heap.size) w V -> Znc w.heap.size V ko l -> ∃ I : Nat -> World -> Prop, I 0 V /\ (∀ j (h : j < l.length) X, I j X -> Znc w.heap.size X ko l /\ Calls Tryz.prog 116 #[.pointer (some ⟨b, 0, none⟩), .int .i64 (l[j] : Int), .bool true] X fun e Y => ∃ c : Int, e = .returned (.int .i64 c) /\ Calls Tryz.prog 242 #[.pointer (some ⟨b, 0, none⟩), .int .i64 tz, .int .i64 c] Y fun e' Z => e' = .returned (.tuple #[]) /\ I (j + 1) Z) /\ ∀ Z, I l.length Z -> Post Z) := hs
 clear hs
 go_enter Tryz.func190, Tryz.ntmps190
 go_wp2_with fail
 refine r9.mono ?_
 rintro e w1 ⟨ao, ac, ko, kc, rfl, hA, hQ, hK⟩
 obtain ⟨V, N, hV, hN, hb, hk, hsz⟩ := zaz w1 (nV x ao ac up ko l.length kc)   58
 have c5 : V.cell? ⟨N, 5, none⟩ = some (.slice ko m kc) := by rw [zaa hb, <- hlm]; rfl
 obtain ⟨I, h0, hst, hen⟩ := HS.out V ko (kt hK hk) (Znc.of hQ hk)
 have HV : Hid (w1.alloc (.cells (nV x ao ac up ko l.length kc) 58) = V) := hV
 have HN : Hid (w1.heap.size = N) := hN
 have HI : Hid (I 0 V) := h0
 have HST : Hid (∀ j (h : j < l.length) X, I j X -> Znc w.heap.size X ko l /\ Calls Tryz.prog 116 #[.pointer (some ⟨b, 0, none⟩), .int .i64 (l[j] : Int), .bool true] X fun e Y => ∃ c : Int, e = .returned (.int .i64 c) /\ Calls Tryz.prog 242 #[.pointer (some ⟨b, 0, none⟩), .int .i64 tz, .int .i64 c] Y fun e' Z => e' = .returned (.tuple #[]) /\ I (j + 1) Z) := hst
 have HEN : Hid (∀ Z, I l.length Z -> Post Z) := hen
 have HLM : Hid (l.length = m) := hlm
 clear r9 HS hA hQ hK hV hN hb hk hsz h0 hst hen c0 hlm
 go_upto_region 1 with fail
 rw [HV.out, HN.out]
 clear HV HN
 go_upto_region 2 with fail
 go_loopg [22] m (fun gh v wr => ∃ j : Nat, gh = m - j /\ j <= m /\ v = .int .i64 (j : Int) /\ I j wr)
 case atStart => exact ⟨0, rfl, Nat.zero_le _, rfl, HI.out⟩
 case round =>
  obtain ⟨j, hgj, hj, rfl, hI⟩ := hrel
  by_cases hlt : j < m
  ·obtain ⟨hnew, r22⟩ := HST.out j (by rw [HLM.out]; exact hlt) wr hI
   obtain ⟨g, rfl, -, -, hc⟩ := hnew j (by rw [HLM.out]; exact hlt)
   obtain ⟨kz, hkz⟩ : ∃ kz : Int, ((l[j]'(by rw [HLM.out]; exact hlt) : Nat) : Int) = kz := ⟨_, rfl⟩
   rw [hkz] at hc r22
   clear hkz hnew hI c5
   go_wp2_with fail
   refine r22.mono ?_
   rintro e Y ⟨c, rfl, r41⟩
   clear r22 hc
   go_wp2_with fail
   refine r41.mono ?_
   rintro e Z ⟨rfl, hI⟩
   have HI2 : Hid (I (j + 1) Z) := hI
   clear r41 hI
   go_wp2
   go_roundg (m - (j + 1))
   case rel => exact ⟨j + 1, rfl, by omega, by go_num, HI2.out⟩
   case measure => omega
  ·have hjm : j = m := by omega
   have HP : Hid (Post wr) := HEN.out wr (by rw [HLM.out, <- hjm]; exact hI)
   clear hjm hI c5
   go_wp2
   go_end0
   exact ⟨rfl, HP.out⟩
end Go.Proofs.YtfeinppedejlpaaGreat
