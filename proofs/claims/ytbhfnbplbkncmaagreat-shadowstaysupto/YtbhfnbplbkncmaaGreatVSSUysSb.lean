/-
  shadow.Attach: WHAT IT ANSWERS.
-/
import Derived.Test.YtbhfnbplbkncmaaGreatVSSUysSc
import Derived.Test.YtbhfnbplbkncmaaGreatVSSUysHost
namespace Go.Proofs.YtbhfnbplbkncmaaGreat
open Go.RowKit
set_option linter.unusedVariables false

/-- What Attach answers of a node that is there. -/
inductive Attached (K : Nat → Prop) (p : Nat) (M : Dm) (host : Nat) (f : Fg) (e : Ending) (w' : World) : Prop
  | host : ¬ ((M.nd host).kind = 1 ∧ hostP (M.nd host).name = true) → e = .returned (.tuple #[.int .i64 0, .int .u16 100]) → DX K w' p M → Attached K p M host f e w'
  | root : hostP (M.nd host).name = true → (M.nd host).kind = 1 → Roots K p M host f e w' → Attached K p M host f e w'

set_option maxRecDepth 20000 in
set_option maxHeartbeats 2000000 in
theorem attach_in (K : Nat → Prop) (p host : Nat) (M : Dm) (R : Nat → List Nat) (rk : Nat → Nat) (f : Fg) (w : World) (h : DX K w p M) (hG : Good M R rk) (hi : host < M.n) (hn : M.n ≤ 100000) (hL : M.limit ≤ 100000) :
    Calls Tryz.prog 46 #[.pointer (some ⟨p, 0, none⟩), .int .i64 (host : Int), fgV f] w fun e w' => Kept K w w' ∧ Attached K p M host f e w' := by
  obtain ⟨W, hW⟩ : ∃ W, w.alloc (.cells #[.bool f.a, .bool f.b, .bool f.c, .bool f.d, .bool f.e] 34) = W := ⟨_, rfl⟩
  obtain ⟨N, hN⟩ : ∃ N, w.heap.size = N := ⟨_, rfl⟩
  have kW : Kept (fun k => k < w.heap.size) w W := by rw [← hW]; exact (Kept.refl _ w).alloc (fun _ h => h) _
  have hfb : W.heap[N]? = some (.cells #[.bool f.a, .bool f.b, .bool f.c, .bool f.d, .bool f.e] 34 (0, 0)) := by rw [← hW, ← hN]; exact heap_alloc_new w _
  have rn := node_any K p host M R W (h.kept kW) hG.wf hi (by omega) hG.few
  have HX : Hid (DX K W p M) := h.kept kW
  have HKl : Hid (∀ k, K k → k < w.heap.size) := h.lt
  have HW : Hid (w.alloc (.cells #[.bool f.a, .bool f.b, .bool f.c, .bool f.d, .bool f.e] 34) = W) := hW
  have HN : Hid (w.heap.size = N) := hN
  have HKW : Hid (Kept (fun k => k < w.heap.size) w W) := kW
  have HFB : Hid (W.heap[N]? = some (.cells #[.bool f.a, .bool f.b, .bool f.c, .bool f.d, .bool f.e] 34 (0, 0))) := hfb
  have HG : Hid (Good M R rk) := hG
  clear h hG hW hN kW hfb
  go_enter Tryz.func46, Tryz.ntmps46
  go_upto_region 1 with fail
  rw [HW.out, HN.out]
  clear HW HN
  go_wp2_with fail
  refine rn.mono ?_
  rintro e v1 ⟨ao1, ac1, ko1, kc1, rfl, -, -, hK1⟩
  obtain ⟨kd, hkd⟩ : ∃ kd, (M.nd host).kind = kd := ⟨_, rfl⟩
  have HKD : Hid ((M.nd host).kind = kd) := hkd
  rw [hkd]
  obtain ⟨nm, hnm⟩ : ∃ nm : ByteArray, ⟨(M.nd host).name.toArray⟩ = nm := ⟨_, rfl⟩
  have hnl : nm.toList = (M.nd host).name := by rw [← hnm, ByteArray.toList_eq]
  rw [hnm]
  obtain ⟨V, hV⟩ : ∃ V, v1.alloc (.cells (outC kd nm ⟨(M.nd host).data.toArray⟩ ao1 (M.nd host).attrs.length ac1 (M.pl host).up ko1 (R host).length kc1 (M.nd host).shadow (M.nd host).host (M.nd host).content (M.nd host).fl) 36) = V := ⟨_, rfl⟩
  obtain ⟨N1, hN1⟩ : ∃ N1, v1.heap.size = N1 := ⟨_, rfl⟩
  have kV : Kept (fun k => k < W.heap.size) W V := by rw [← hV]; exact hK1.alloc (fun k h => Nat.lt_of_lt_of_le h hK1.size) _
  have hb : V.heap[N1]? = some (.cells (outC kd nm ⟨(M.nd host).data.toArray⟩ ao1 (M.nd host).attrs.length ac1 (M.pl host).up ko1 (R host).length kc1 (M.nd host).shadow (M.nd host).host (M.nd host).content (M.nd host).fl) 36 (0, 0)) := by rw [← hV, ← hN1]; exact heap_alloc_new v1 _
  have c0 : V.cell? ⟨N1, 0, none⟩ = some (.int .u8 (kd : Int)) := by rw [cell_block hb]; rfl
  have c1 : V.cell? ⟨N1, 1, none⟩ = some (.string nm) := by rw [cell_block hb]; rfl
  have HKV : Hid (Kept (fun k => k < W.heap.size) W V) := kV
  have HV : Hid (v1.alloc (.cells (outC kd nm ⟨(M.nd host).data.toArray⟩ ao1 (M.nd host).attrs.length ac1 (M.pl host).up ko1 (R host).length kc1 (M.nd host).shadow (M.nd host).host (M.nd host).content (M.nd host).fl) 36) = V) := hV
  have HN1 : Hid (v1.heap.size = N1) := hN1
  have HNL : Hid (nm.toList = (M.nd host).name) := hnl
  clear rn hK1 hkd hnm hV hN1 kV hb hnl
  go_upto_region 2 with fail
  rw [HV.out, HN1.out]
  clear HV HN1
  have HKA : Hid (Kept K w V) := (HKW.out.mono HKl.out).trans (HKV.out.mono fun k hk => Nat.lt_of_lt_of_le (HKl.out k hk) HKW.out.size)
  by_cases c : kd = 1
  · subst c
    have rh := host_any nm (fun k => k < V.heap.size) V (fun _ h => h)
    obtain ⟨b, hbe⟩ : ∃ b, hostP nm.toList = b := ⟨_, rfl⟩
    rw [hbe] at rh
    have HB : Hid (hostP (M.nd host).name = b) := by rw [← HNL.out]; exact hbe
    clear hbe
    cases b with
    | false =>
      go_wp2_with (go_at_call 113; refine rh.mono ?_; rintro e w3 ⟨rfl, hk3⟩)
      go_ret2
      exact ⟨HKA.out.trans (hk3.mono fun k hk => Nat.lt_of_lt_of_le (HKl.out k hk) (Nat.le_trans HKW.out.size HKV.out.size)), .host (fun h => by rw [HB.out] at h; exact absurd h.2 (by decide)) rfl ((HX.out.kept HKV.out).kept hk3)⟩
    | true =>
      go_upto_region 7 with (go_at_call 113; refine rh.mono ?_; rintro e w3 ⟨rfl, hk3⟩)
      have k3 : Kept (fun k => k < W.heap.size) W w3 := HKV.out.trans (hk3.mono fun k h => Nat.lt_of_lt_of_le h HKV.out.size)
      have hX3 : DX K w3 p M := HX.out.kept k3
      have hfb : w3.heap[N]? = some (.cells #[.bool f.a, .bool f.b, .bool f.c, .bool f.d, .bool f.e] 34 (0, 0)) := by rw [k3.block N (lt_block HFB.out)]; exact HFB.out
      have b0 : w3.cell? ⟨N, 0, none⟩ = some (.bool f.a) := by rw [cell_block hfb]; rfl
      have b1 : w3.cell? ⟨N, 1, none⟩ = some (.bool f.b) := by rw [cell_block hfb]; rfl
      have b2 : w3.cell? ⟨N, 2, none⟩ = some (.bool f.c) := by rw [cell_block hfb]; rfl
      have b3 : w3.cell? ⟨N, 3, none⟩ = some (.bool f.d) := by rw [cell_block hfb]; rfl
      have b4 : w3.cell? ⟨N, 4, none⟩ = some (.bool f.e) := by rw [cell_block hfb]; rfl
      have rr := root_in K p host M f w3 hX3 hi hn hL
      have rr' : Calls Tryz.prog 91 #[.pointer (some ⟨p, 0, none⟩), .int .i64 (host : Int), fgV f] w3 fun e w' => ∃ a c : Int, e = .returned (.tuple #[.int .i64 a, .int .u16 c]) ∧ Kept K w3 w' ∧ Roots K p M host f e w' := rr.mono fun e w' hh => by
        rcases hh with ⟨h1, h2⟩
        cases h2 with
        | host q1 q2 q3 => exact ⟨0, 100, q2, h1, .host q1 q2 q3⟩
        | twice q1 q2 q3 q4 => exact ⟨0, 101, q3, h1, .twice q1 q2 q3 q4⟩
        | full q1 q2 q3 q4 q5 => exact ⟨0, 3, q4, h1, .full q1 q2 q3 q4 q5⟩
        | made q1 q2 q3 q4 q5 => exact ⟨M.n, 0, q4, h1, .made q1 q2 q3 q4 q5⟩
      have HK3 : Hid (Kept K w w3) := HKA.out.trans (hk3.mono fun k hk => Nat.lt_of_lt_of_le (HKl.out k hk) (Nat.le_trans HKW.out.size HKV.out.size))
      clear hk3 k3 hX3 hfb rr rh c0 c1
      go_wp2_with (go_at_call 91; refine rr'.mono ?_; rintro e w4 ⟨a, c, he, hk4, hR⟩; subst he)
      go_ret2
      exact ⟨HK3.out.trans hk4, .root HB.out HKD.out hR⟩
  · have e1 : ((kd : Int) == 1) = false := by simp; omega
    have e2 : ¬ (kd : Int) = 1 := by omega
    go_wp2
    go_ret2
    exact ⟨HKA.out, .host (fun h => c (by rw [← HKD.out]; exact h.1)) rfl (HX.out.kept HKV.out)⟩
end Go.Proofs.YtbhfnbplbkncmaaGreat
