/-
  The document's own shadow.Attach; Attach does the same to both documents.
-/
import Derived.Test.YtbhfnbplbkncmaaGreatVSTUlsRc
import Derived.Test.YtbhfnbplbkncmaaGreatVSTUlsSb
import Derived.Test.YtbhfnbplbkncmaaGreatZ35
namespace Go.Proofs.YtbhfnbplbkncmaaGreat
open Go.RowKit Go.Sort
set_option linter.unusedVariables false
set_option maxRecDepth 20000 in
set_option maxHeartbeats 2000000 in
theorem attach_none (K : Nat → Prop) (p : Nat) (M : Dm) (i : Int) (f : Fg) (w : World) (h : DX K w p M) (hi : i < 0 ∨ (M.n : Int) ≤ i) (hn : M.n ≤ 1000000) :
    Calls Tryz.prog 46 #[.pointer (some ⟨p, 0, none⟩), .int .i64 i, fgV f] w fun e w' => e = .returned (.tuple #[.int .i64 0, .int .u16 80]) ∧ Kept (fun k => k < w.heap.size) w w' := by
  obtain ⟨W, hW⟩ : ∃ W, w.alloc (.cells #[.bool f.a, .bool f.b, .bool f.c, .bool f.d, .bool f.e] 34) = W := ⟨_, rfl⟩
  have kW : Kept (fun k => k < w.heap.size) w W := by rw [← hW]; exact (Kept.refl _ w).alloc (fun _ h => h) _
  have rn := node_none K p M i W (h.kept kW) hi hn
  have HW : Hid (w.alloc (.cells #[.bool f.a, .bool f.b, .bool f.c, .bool f.d, .bool f.e] 34) = W) := hW
  have HK : Hid (Kept (fun k => k < w.heap.size) w W) := kW
  clear h hW kW hi
  go_enter Tryz.func46, Tryz.ntmps46
  go_upto_region 1 with fail
  rw [HW.out]
  clear HW
  go_wp2_with fail
  refine rn.mono ?_
  rintro e v1 ⟨rfl, hK1⟩
  have HK1 : Hid (∀ o, Kept (fun k => k < w.heap.size) w (v1.alloc o)) := fun o => (HK.out.trans (hK1.mono fun k h => Nat.lt_of_lt_of_le h HK.out.size)).alloc (fun k h => Nat.lt_of_lt_of_le h (Nat.le_trans HK.out.size hK1.size)) o
  clear rn hK1
  go_wp2
  go_ret2
  exact ⟨rfl, HK1.out _⟩
set_option maxRecDepth 20000 in
theorem rattach_none (K : Nat → Prop) (p : Nat) (M : Dm) (R G : Nat → List Nat) (i : Int) (f : Fg) (w : World) (h : RX K w p M R G) (hi : i < 0 ∨ (M.n : Int) ≤ i) :
    Calls Tryz.prog 47 #[.pointer (some ⟨p, 0, none⟩), .int .i64 i, fgV f] w fun e w' => e = .returned (.tuple #[.int .i64 0, .int .i64 80]) ∧ Kept (fun k => k < w.heap.size) w w' := by
  have kb : ∀ o : Obj, Kept (fun k => k < w.heap.size) w (w.alloc o) := fun o => (Kept.refl _ w).alloc (fun _ h => h) _
  have c1' : ∀ o : Obj, ∃ a cp, (w.alloc o).cell? ⟨p, 1, none⟩ = some (.slice a M.n cp) := fun o => by
    obtain ⟨A, hY⟩ := h.kept (kb o)
    exact ⟨_, _, hY.c1⟩
  obtain ⟨a1, cp, c1⟩ := c1' (.cells #[.bool f.a, .bool f.b, .bool f.c, .bool f.d, .bool f.e] 34)
  have HK : Hid (∀ o : Obj, Kept (fun k => k < w.heap.size) w (w.alloc o)) := kb
  clear h kb c1'
  by_cases h0 : i < 0
  · have e0 : decide (i < 0) = true := decide_eq_true h0
    clear hi
    go_enter Tryz.func47, Tryz.ntmps47
    go_wp2
    go_ret2
    exact ⟨rfl, HK.out _⟩
  · have e0 : decide (i < 0) = false := decide_eq_false h0
    have e1 : decide (i ≥ (M.n : Int)) = true := decide_eq_true (by omega)
    clear hi
    go_enter Tryz.func47, Tryz.ntmps47
    go_wp2
    go_ret2
    exact ⟨rfl, HK.out _⟩
/-- What the document's own Attach answers of a node that is there. -/
inductive RAttached (K : Nat → Prop) (p : Nat) (M : Dm) (R G : Nat → List Nat) (host : Nat) (f : Fg) (e : Ending) (w' : World) : Prop
  | host : ¬ ((M.nd host).kind = 1 ∧ hostP (M.nd host).name = true) → e = .returned (.tuple #[.int .i64 0, .int .i64 100]) → RX K w' p M R G → RAttached K p M R G host f e w'
  | root : hostP (M.nd host).name = true → (M.nd host).kind = 1 → RRoots K p M R G host f e w' → RAttached K p M R G host f e w'
set_option maxRecDepth 20000 in
set_option maxHeartbeats 4000000 in
theorem rattach_in (K : Nat → Prop) (p host : Nat) (M : Dm) (R G : Nat → List Nat) (f : Fg) (w : World) (h : RX K w p M R G) (hi : host < M.n) (hn : M.n ≤ 100000) (hL : M.limit ≤ 100000) (hsh : (M.nd host).shadow = -1 ∨ 0 ≤ (M.nd host).shadow) (hnm : (M.nd host).kind = 1 → (M.nd host).name.length ≤ 60) :
    Calls Tryz.prog 47 #[.pointer (some ⟨p, 0, none⟩), .int .i64 (host : Int), fgV f] w fun e w' => Kept K w w' ∧ RAttached K p M R G host f e w' := by
  obtain ⟨W, hW⟩ : ∃ W, w.alloc (.cells #[.bool f.a, .bool f.b, .bool f.c, .bool f.d, .bool f.e] 34) = W := ⟨_, rfl⟩
  obtain ⟨N, hN⟩ : ∃ N, w.heap.size = N := ⟨_, rfl⟩
  have kW : Kept (fun k => k < w.heap.size) w W := by rw [← hW]; exact (Kept.refl _ w).alloc (fun _ h => h) _
  have hfb : W.heap[N]? = some (.cells #[.bool f.a, .bool f.b, .bool f.c, .bool f.d, .bool f.e] 34 (0, 0)) := by rw [← hW, ← hN]; exact heap_alloc_new w _
  have hXW := h.kept kW
  have HX : Hid (RX K W p M R G) := hXW
  have HKl : Hid (∀ k, K k → k < W.heap.size) := hXW.lt
  have HKW : Hid (Kept K w W) := kW.mono h.lt
  have HFB : Hid (W.heap[N]? = some (.cells #[.bool f.a, .bool f.b, .bool f.c, .bool f.d, .bool f.e] 34 (0, 0))) := hfb
  obtain ⟨A, hY⟩ := hXW
  obtain ⟨g, hg, -, -, hgl⟩ := hY.nat (by omega)
  have c1 := hY.c1
  rw [hg] at c1
  have c0 : W.cell? ⟨g, host * 14, none⟩ = some (.int .u8 ((M.nd host).kind : Int)) := hY.cell hg hi 0 _ rfl
  have cn : W.cell? ⟨g, host * 14 + 1, none⟩ = some (.string ⟨(M.nd host).name.toArray⟩) := hY.cell hg hi 1 _ rfl
  have HW : Hid (w.alloc (.cells #[.bool f.a, .bool f.b, .bool f.c, .bool f.d, .bool f.e] 34) = W) := hW
  have HN : Hid (w.heap.size = N) := hN
  obtain ⟨kd, hkd⟩ : ∃ kd, (M.nd host).kind = kd := ⟨_, rfl⟩
  have HKD : Hid ((M.nd host).kind = kd) := hkd
  rw [hkd] at c0 hnm
  obtain ⟨nm, hnme⟩ : ∃ nm : ByteArray, ⟨(M.nd host).name.toArray⟩ = nm := ⟨_, rfl⟩
  have hnl : nm.toList = (M.nd host).name := by rw [← hnme, ByteArray.toList_eq]
  have hns : nm.size = (M.nd host).name.length := by rw [← hnme]; rfl
  rw [hnme] at cn
  have HNL : Hid (nm.toList = (M.nd host).name) := hnl
  have HSH : Hid ((M.nd host).shadow = -1 ∨ 0 ≤ (M.nd host).shadow) := hsh
  obtain ⟨n, hne⟩ : ∃ n, M.n = n := ⟨_, rfl⟩
  have HNE : Hid (M.n = n) := hne
  rw [hne] at c1 hi hn
  have e0 : decide ((host : Int) < 0) = false := decide_eq_false (by omega)
  have e1 : decide ((host : Int) ≥ (n : Int)) = false := decide_eq_false (by omega)
  have e1n : decide (n ≤ host) = false := decide_eq_false (by omega)
  clear hY hg h hW hN kW hkd hnme hfb hnl hsh hne
  by_cases q1 : kd = 1
  · subst q1
    have rh := rhost_any nm (fun k => k < W.heap.size) W (by rw [hns]; have := hnm rfl; omega)
    obtain ⟨b, hbe⟩ : ∃ b, hostP nm.toList = b := ⟨_, rfl⟩
    rw [hbe] at rh
    have HB : Hid (hostP (M.nd host).name = b) := by rw [← HNL.out]; exact hbe
    clear hbe hns hnm
    cases b with
    | false =>
      go_enter Tryz.func47, Tryz.ntmps47
      go_upto_region 1 with fail
      rw [HW.out, HN.out]
      go_wp2_with (go_at_call 50; refine rh.mono ?_; rintro e w3 ⟨rfl, hk3⟩)
      go_ret2
      exact ⟨HKW.out.trans (hk3.mono HKl.out), .host (fun h => by rw [HB.out] at h; exact absurd h.2 (by decide)) rfl (HX.out.kept hk3)⟩
    | true =>
      go_enter Tryz.func47, Tryz.ntmps47
      go_upto_region 1 with fail
      rw [HW.out, HN.out]
      go_upto_region 5 with (go_at_call 50; refine rh.mono ?_; rintro e w3 ⟨rfl, hk3⟩)
      have hX3 : RX K w3 p M R G := HX.out.kept hk3
      have hfb : w3.heap[N]? = some (.cells #[.bool f.a, .bool f.b, .bool f.c, .bool f.d, .bool f.e] 34 (0, 0)) := by rw [hk3.block N (lt_block HFB.out)]; exact HFB.out
      have b0 : w3.cell? ⟨N, 0, none⟩ = some (.bool f.a) := by rw [cell_block hfb]; rfl
      have b1 : w3.cell? ⟨N, 1, none⟩ = some (.bool f.b) := by rw [cell_block hfb]; rfl
      have b2 : w3.cell? ⟨N, 2, none⟩ = some (.bool f.c) := by rw [cell_block hfb]; rfl
      have b3 : w3.cell? ⟨N, 3, none⟩ = some (.bool f.d) := by rw [cell_block hfb]; rfl
      have b4 : w3.cell? ⟨N, 4, none⟩ = some (.bool f.e) := by rw [cell_block hfb]; rfl
      have rr := rroot_in K p host M R G f w3 hX3 (by rw [HNE.out]; exact hi) (by rw [HNE.out]; exact hn) hL HSH.out
      have rr' : Calls Tryz.prog 92 #[.pointer (some ⟨p, 0, none⟩), .int .i64 (host : Int), fgV f] w3 fun e w' => ∃ a c : Int, e = .returned (.tuple #[.int .i64 a, .int .i64 c]) ∧ Kept K w3 w' ∧ RRoots K p M R G host f e w' := rr.mono fun e w' hh => by
        rcases hh with ⟨h1, h2⟩
        cases h2 with
        | host q1 q2 q3 => exact ⟨0, 100, q2, h1, .host q1 q2 q3⟩
        | twice q1 q2 q3 q4 => exact ⟨0, 101, q3, h1, .twice q1 q2 q3 q4⟩
        | full q1 q2 q3 q4 q5 => exact ⟨0, 3, q4, h1, .full q1 q2 q3 q4 q5⟩
        | made q1 q2 q3 q4 q5 => exact ⟨M.n, 0, q4, h1, .made q1 q2 q3 q4 q5⟩
      have HK3 : Hid (Kept K w w3) := HKW.out.trans (hk3.mono HKl.out)
      clear hk3 hX3 hfb rr rh c0 c1 cn
      go_wp2_with (go_at_call 92; refine rr'.mono ?_; rintro e w4 ⟨a, c, he, hk4, hR⟩; subst he)
      go_ret2
      exact ⟨HK3.out.trans hk4, .root HB.out HKD.out hR⟩
  · have p1 : ((kd : Int) == 1) = false := by simp; omega
    have n1 : ((kd : Int) != 1) = true := by simp; omega
    go_enter Tryz.func47, Tryz.ntmps47
    go_upto_region 1 with fail
    rw [HW.out, HN.out]
    go_wp2
    go_ret2
    exact ⟨HKW.out, .host (fun h => q1 (by rw [← HKD.out]; exact h.1)) rfl HX.out⟩
section
variable {M : Dm} {R G : Nat → List Nat} {rk : Nat → Nat}
theorem Core.name {M : Dm} (h : Core M) {i : Nat} (hi : i < M.n) (hk : (M.nd i).kind = 1) : (M.nd i).name.length ≤ 60 := by
  have := (h.el i hi hk).1
  unfold validP at this
  simp at this
  exact this.1.2
set_option maxHeartbeats 1000000 in
theorem both_attach (hI : Inv M R G rk) (hn : M.n ≤ 100000) (hL : M.limit ≤ 100000) (i : Int) (f : Fg) : ∃ v z M' R' G' rk', Inv M' R' G' rk' ∧ Grows M M' ∧ (z = 0 ∨ (M' = M ∧ R' = R ∧ G' = G)) ∧ (0 ≤ z ∧ z ≤ 200) ∧
    (∀ K w p, DX K w p M → Calls Tryz.prog 46 #[.pointer (some ⟨p, 0, none⟩), .int .i64 i, fgV f] w fun e w' => e = .returned (.tuple #[.int .i64 v, .int .u16 z]) ∧ DX K w' p M' ∧ Kept K w w') ∧
    (∀ K w p, RX K w p M R G → Calls Tryz.prog 47 #[.pointer (some ⟨p, 0, none⟩), .int .i64 i, fgV f] w fun e w' => e = .returned (.tuple #[.int .i64 v, .int .i64 z]) ∧ RX K w' p M' R' G' ∧ Kept K w w') := by
  by_cases hno : i < 0 ∨ (M.n : Int) ≤ i
  · refine ⟨0, 80, M, R, G, rk, hI, .refl M, .inr ⟨rfl, rfl, rfl⟩, ⟨by decide, by decide⟩, fun K w p h => (attach_none K p M i f w h hno (by omega)).mono ?_, fun K w p h => (rattach_none K p M R G i f w h hno).mono ?_⟩
    · rintro e w' ⟨rfl, hK⟩; exact ⟨rfl, h.kept hK, hK.mono h.lt⟩
    · rintro e w' ⟨rfl, hK⟩; exact ⟨rfl, h.kept hK, hK.mono h.lt⟩
  · obtain ⟨k, hk, rfl⟩ := int_nat hno
    have pd := fun K w p h => attach_in K p k M R rk f w h hI.good hk hn hL
    have hsh : (M.nd k).shadow = -1 ∨ 0 ≤ (M.nd k).shadow := by
      rcases hI.core.shad k hk with e | ⟨q, -, e, -⟩
      · exact .inl e
      · exact .inr (by omega)
    have pr := fun K w p h => rattach_in K p k M R G f w h hk hn hL hsh (hI.core.name hk)
    by_cases c1 : (M.nd k).kind = 1 ∧ hostP (M.nd k).name = true
    · by_cases c2 : (M.nd k).shadow = -1
      · by_cases c3 : M.n + 1 ≤ M.limit
        · obtain ⟨rk', hI'⟩ := hI.addR f hk c1.1 c2
          refine ⟨(M.n : Int), 0, _, _, _, rk', hI', addR_grows hk c2 c3, .inl rfl, ⟨by decide, by decide⟩, fun K w p h => (pd K w p h).mono ?_, fun K w p h => (pr K w p h).mono ?_⟩
          · rintro e w' ⟨hK, hR⟩
            cases hR with
            | host a _ _ => exact absurd c1 a
            | root _ _ hR => cases hR with
              | host a _ _ => exact absurd c1.1 a
              | twice _ a _ _ => exact absurd c2 a
              | full _ _ a _ _ => omega
              | made _ _ _ e hX => exact ⟨e, hX, hK⟩
          · rintro e w' ⟨hK, hR⟩
            cases hR with
            | host a _ _ => exact absurd c1 a
            | root _ _ hR => cases hR with
              | host a _ _ => exact absurd c1.1 a
              | twice _ a _ _ => exact absurd c2 a
              | full _ _ a _ _ => omega
              | made _ _ _ e hX => exact ⟨e, hX, hK⟩
        · refine ⟨0, 3, M, R, G, rk, hI, .refl M, .inr ⟨rfl, rfl, rfl⟩, ⟨by decide, by decide⟩, fun K w p h => (pd K w p h).mono ?_, fun K w p h => (pr K w p h).mono ?_⟩
          · rintro e w' ⟨hK, hR⟩
            cases hR with
            | host a _ _ => exact absurd c1 a
            | root _ _ hR => cases hR with
              | host a _ _ => exact absurd c1.1 a
              | twice _ a _ _ => exact absurd c2 a
              | full _ _ a e hX => exact ⟨e, hX, hK⟩
              | made _ _ a _ _ => omega
          · rintro e w' ⟨hK, hR⟩
            cases hR with
            | host a _ _ => exact absurd c1 a
            | root _ _ hR => cases hR with
              | host a _ _ => exact absurd c1.1 a
              | twice _ a _ _ => exact absurd c2 a
              | full _ _ a e hX => exact ⟨e, hX, hK⟩
              | made _ _ a _ _ => omega
      · refine ⟨0, 101, M, R, G, rk, hI, .refl M, .inr ⟨rfl, rfl, rfl⟩, ⟨by decide, by decide⟩, fun K w p h => (pd K w p h).mono ?_, fun K w p h => (pr K w p h).mono ?_⟩
        · rintro e w' ⟨hK, hR⟩
          cases hR with
          | host a _ _ => exact absurd c1 a
          | root _ _ hR => cases hR with
            | host a _ _ => exact absurd c1.1 a
            | twice _ a e hX => exact ⟨e, hX, hK⟩
            | full _ a _ _ _ => exact absurd a c2
            | made _ a _ _ _ => exact absurd a c2
        · rintro e w' ⟨hK, hR⟩
          cases hR with
          | host a _ _ => exact absurd c1 a
          | root _ _ hR => cases hR with
            | host a _ _ => exact absurd c1.1 a
            | twice _ a e hX => exact ⟨e, hX, hK⟩
            | full _ a _ _ _ => exact absurd a c2
            | made _ a _ _ _ => exact absurd a c2
    · refine ⟨0, 100, M, R, G, rk, hI, .refl M, .inr ⟨rfl, rfl, rfl⟩, ⟨by decide, by decide⟩, fun K w p h => (pd K w p h).mono ?_, fun K w p h => (pr K w p h).mono ?_⟩
      · rintro e w' ⟨hK, hR⟩
        cases hR with
        | host a e hX => exact ⟨e, hX, hK⟩
        | root a b _ => exact absurd ⟨b, a⟩ c1
      · rintro e w' ⟨hK, hR⟩
        cases hR with
        | host a e hX => exact ⟨e, hX, hK⟩
        | root a b _ => exact absurd ⟨b, a⟩ c1
end
end Go.Proofs.YtbhfnbplbkncmaaGreat
