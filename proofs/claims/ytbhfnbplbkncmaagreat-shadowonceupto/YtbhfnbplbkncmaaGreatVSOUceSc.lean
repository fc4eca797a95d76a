/-
  shadow.Of, isClosed, Open.
-/
import Derived.Test.YtbhfnbplbkncmaaGreatZ28
namespace Go.Proofs.YtbhfnbplbkncmaaGreat
open Go.RowKit
set_option linter.unusedVariables false
set_option maxRecDepth 20000 in
set_option maxHeartbeats 1000000 in
theorem of_any (K : Nat → Prop) (p i : Nat) (M : Dm) (R : Nat → List Nat) (rk : Nat → Nat) (w : World) (h : DX K w p M) (hG : Good M R rk) (hi : i < M.n) (hn : M.n ≤ 1000000) :
    Calls Tryz.prog 42 #[.pointer (some ⟨p, 0, none⟩), .int .i64 (i : Int)] w fun e w' => ∃ z : Int, OfOf M i z ∧ e = .returned (.int .i64 z) ∧ Kept (fun k => k < w.heap.size) w w' := by
  have r1 := oroot_any K p i M R rk w h hG hi hn
  have HG : Hid (Good M R rk) := hG
  have HX : Hid (DX K w p M) := h
  clear h hG
  go_enter Tryz.func42, Tryz.ntmps42
  go_wp2_with fail
  refine r1.mono ?_
  rintro e w1 ⟨t, ht, hT, rfl, hK1⟩
  have r2 := node_any K p t M R w1 (HX.out.kept hK1) HG.out.wf ht hn HG.out.few
  have HT : Hid (TopOf M i t) := hT
  have HK1 : Hid (Kept (fun k => k < w.heap.size) w w1) := hK1
  clear r1 hT hK1
  go_upto_region 2 with fail
  go_wp2_with fail
  refine r2.mono ?_
  rintro e v1 ⟨ao1, ac1, ko1, kc1, rfl, -, -, hK2⟩
  have HK2 : Hid (∀ o, Kept (fun k => k < w.heap.size) w (v1.alloc o)) := fun o => (HK1.out.trans (hK2.mono fun k h => Nat.lt_of_lt_of_le h HK1.out.size)).alloc (fun k h => Nat.lt_of_lt_of_le h (Nat.le_trans HK1.out.size hK2.size)) o
  obtain ⟨kd, hkd⟩ : ∃ kd, (M.nd t).kind = kd := ⟨_, rfl⟩
  have HKD : Hid ((M.nd t).kind = kd) := hkd
  rw [hkd]
  clear r2 hK2 hkd
  by_cases c : kd = 5
  · subst c
    go_wp2
    go_ret
    exact ⟨_, .yes HT.out HKD.out, rfl, HK2.out _⟩
  · have e1 : ((kd : Int) == 5) = false := by simp; omega
    have e2 : ¬ (kd : Int) = 5 := by omega
    go_wp2
    go_ret
    exact ⟨_, .no HT.out (by rw [HKD.out]; exact c), rfl, HK2.out _⟩
set_option maxRecDepth 20000 in
set_option maxHeartbeats 1000000 in
theorem isClosed_any (K : Nat → Prop) (p i : Nat) (M : Dm) (R : Nat → List Nat) (rk : Nat → Nat) (w : World) (h : DX K w p M) (hG : Good M R rk) (hi : i < M.n) (hn : M.n ≤ 1000000) :
    Calls Tryz.prog 114 #[.pointer (some ⟨p, 0, none⟩), .int .i64 (i : Int)] w fun e w' => e = .returned (.bool (M.nd i).fl.a) ∧ Kept (fun k => k < w.heap.size) w w' := by
  have r2 := node_any K p i M R w h hG.wf hi hn hG.few
  clear h hG
  go_enter Tryz.func114, Tryz.ntmps114
  go_wp2_with fail
  refine r2.mono ?_
  rintro e v1 ⟨ao1, ac1, ko1, kc1, rfl, -, -, hK2⟩
  have HK2 : Hid (∀ o, Kept (fun k => k < w.heap.size) w (v1.alloc o)) := fun o => hK2.alloc (fun k h => Nat.lt_of_lt_of_le h hK2.size) o
  clear r2 hK2
  go_wp2
  go_ret
  exact ⟨rfl, HK2.out _⟩
set_option maxRecDepth 20000 in
set_option maxHeartbeats 1000000 in
theorem open_any (K : Nat → Prop) (p i : Nat) (M : Dm) (R : Nat → List Nat) (rk : Nat → Nat) (w : World) (h : DX K w p M) (hG : Good M R rk) (hi : i < M.n) (hn : M.n ≤ 1000000) (hs : (M.nd i).shadow = -1 ∨ ∃ s : Nat, s < M.n ∧ (M.nd i).shadow = (s : Int)) :
    Calls Tryz.prog 48 #[.pointer (some ⟨p, 0, none⟩), .int .i64 (i : Int)] w fun e w' => e = .returned (.int .i64 (openI M i)) ∧ Kept (fun k => k < w.heap.size) w w' := by
  have r2 := node_any K p i M R w h hG.wf hi hn hG.few
  have HG : Hid (Good M R rk) := hG
  have HX : Hid (DX K w p M) := h
  unfold openI
  clear h hG
  rcases hs with hs | ⟨s, hsn, hs⟩
  · rw [if_pos hs]
    go_enter Tryz.func48, Tryz.ntmps48
    go_wp2_with fail
    refine r2.mono ?_
    rintro e v1 ⟨ao1, ac1, ko1, kc1, rfl, -, -, hK2⟩
    have HK2 : Hid (∀ o, Kept (fun k => k < w.heap.size) w (v1.alloc o)) := fun o => hK2.alloc (fun k h => Nat.lt_of_lt_of_le h hK2.size) o
    rw [hs]
    clear r2 hK2
    go_wp2
    go_ret
    exact ⟨rfl, HK2.out _⟩
  · rw [hs, if_neg (by omega), Int.toNat_natCast]
    have e1 : ((s : Int) == -1) = false := by simp
    have e2 : ¬ (s : Int) = -1 := by omega
    have HS : Hid ((M.nd i).shadow = (s : Int)) := hs
    obtain ⟨b, hbe⟩ : ∃ b, (M.nd s).fl.a = b := ⟨_, rfl⟩
    rw [hbe]
    have HBE : Hid ((M.nd s).fl.a = b) := hbe
    clear hs hbe
    go_enter Tryz.func48, Tryz.ntmps48
    go_wp2_with fail
    refine r2.mono ?_
    rintro e v1 ⟨ao1, ac1, ko1, kc1, rfl, -, -, hK2⟩
    rw [HS.out]
    obtain ⟨V, hV⟩ : ∃ V, v1.alloc (.cells (outC (M.nd i).kind ⟨(M.nd i).name.toArray⟩ ⟨(M.nd i).data.toArray⟩ ao1 (M.nd i).attrs.length ac1 (M.pl i).up ko1 (R i).length kc1 (s : Int) (M.nd i).host (M.nd i).content (M.nd i).fl) 36) = V := ⟨_, rfl⟩
    obtain ⟨N, hN⟩ : ∃ N, v1.heap.size = N := ⟨_, rfl⟩
    have kV : Kept (fun k => k < w.heap.size) w V := by rw [← hV]; exact hK2.alloc (fun k h => Nat.lt_of_lt_of_le h hK2.size) _
    have hb : V.heap[N]? = some (.cells (outC (M.nd i).kind ⟨(M.nd i).name.toArray⟩ ⟨(M.nd i).data.toArray⟩ ao1 (M.nd i).attrs.length ac1 (M.pl i).up ko1 (R i).length kc1 (s : Int) (M.nd i).host (M.nd i).content (M.nd i).fl) 36 (0, 0)) := by rw [← hV, ← hN]; exact heap_alloc_new v1 _
    have c6 : V.cell? ⟨N, 6, none⟩ = some (.int .i64 (s : Int)) := by rw [cell_block hb]; rfl
    have r3 := isClosed_any K p s M R rk V (HX.out.kept kV) HG.out hsn hn
    have HN : Hid (N < V.heap.size) := lt_block hb
    have HKV : Hid (Kept (fun k => k < w.heap.size) w V) := kV
    have HV : Hid (v1.alloc (.cells (outC (M.nd i).kind ⟨(M.nd i).name.toArray⟩ ⟨(M.nd i).data.toArray⟩ ao1 (M.nd i).attrs.length ac1 (M.pl i).up ko1 (R i).length kc1 (s : Int) (M.nd i).host (M.nd i).content (M.nd i).fl) 36) = V) := hV
    have HNE : Hid (v1.heap.size = N) := hN
    rw [HBE.out] at r3
    clear r2 hK2 hV hN kV hb
    go_upto_region 3 with fail
    rw [HV.out, HNE.out]
    clear HV HNE
    cases b with
    | true =>
      go_wp2_with (go_at_call 114; refine r3.mono ?_; rintro e w3 ⟨rfl, hk3⟩)
      go_ret
      exact ⟨rfl, HKV.out.trans (hk3.mono fun k h => Nat.lt_of_lt_of_le h HKV.out.size)⟩
    | false =>
      go_upto_region 2 with (go_at_call 114; refine r3.mono ?_; rintro e w3 ⟨rfl, hk3⟩)
      have c6' : w3.cell? ⟨N, 6, none⟩ = some (.int .i64 (s : Int)) := (hk3.cell (p := ⟨N, 6, none⟩) HN.out).trans c6
      have HK3 : Hid (Kept (fun k => k < w.heap.size) w w3) := HKV.out.trans (hk3.mono fun k h => Nat.lt_of_lt_of_le h HKV.out.size)
      clear c6 hk3 r3
      go_wp2
      go_ret
      exact ⟨rfl, HK3.out⟩
end Go.Proofs.YtbhfnbplbkncmaaGreat
