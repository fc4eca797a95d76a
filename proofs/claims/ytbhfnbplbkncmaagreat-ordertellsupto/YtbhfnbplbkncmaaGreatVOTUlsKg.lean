/-
  order.Before, walked.
-/
import Derived.Test.YtbhfnbplbkncmaaGreatVOTUlsKf
namespace Go.Proofs.YtbhfnbplbkncmaaGreat
open Go.RowKit Go.Shelf
set_option linter.unusedVariables false
attribute [local go_sem] Oper.semAt_some
abbrev bf3 (a b : Int) (w : World) : World := ((w.alloc (.cells #[.int .i64 a] 3)).alloc (.cells #[.int .i64 b] 3)).alloc (.cells #[.bool false] 4)
theorem bf3_ok (a b : Int) (w : World) : Kept (fun k => k < w.heap.size) w (bf3 a b w) ∧ (bf3 a b w).heap.size = w.heap.size + 3 ∧ (bf3 a b w).heap[w.heap.size]? = some (.cells #[.int .i64 a] 3 (0, 0)) ∧ (bf3 a b w).heap[w.heap.size + 1]? = some (.cells #[.int .i64 b] 3 (0, 0)) ∧ (bf3 a b w).heap[w.heap.size + 2]? = some (.cells #[.bool false] 4 (0, 0)) := by
  obtain ⟨A, hA⟩ : ∃ A, w.alloc (.cells #[.int .i64 a] 3) = A := ⟨_, rfl⟩
  obtain ⟨B, hB⟩ : ∃ B, A.alloc (.cells #[.int .i64 b] 3) = B := ⟨_, rfl⟩
  obtain ⟨C, hC⟩ : ∃ C, B.alloc (.cells #[.bool false] 4) = C := ⟨_, rfl⟩
  have e : bf3 a b w = C := by unfold bf3; rw [hA, hB, hC]
  have sA : A.heap.size = w.heap.size + 1 := by rw [← hA]; simp
  have sB : B.heap.size = w.heap.size + 2 := by rw [← hB]; simp [sA]
  have sC : C.heap.size = w.heap.size + 3 := by rw [← hC]; simp [sB]
  have kA : Kept (fun k => k < w.heap.size) w A := by rw [← hA]; exact (Kept.refl _ w).alloc (fun _ h => h) _
  have kB : Kept (fun k => k < A.heap.size) A B := by rw [← hB]; exact (Kept.refl _ A).alloc (fun _ h => h) _
  have kC : Kept (fun k => k < B.heap.size) B C := by rw [← hC]; exact (Kept.refl _ B).alloc (fun _ h => h) _
  have a0 : A.heap[w.heap.size]? = some (.cells #[.int .i64 a] 3 (0, 0)) := by rw [← hA]; exact heap_alloc_new w _
  have b0 : B.heap[w.heap.size + 1]? = some (.cells #[.int .i64 b] 3 (0, 0)) := by rw [← hB, ← sA]; exact heap_alloc_new A _
  have c0 : C.heap[w.heap.size + 2]? = some (.cells #[.bool false] 4 (0, 0)) := by rw [← hC, ← sB]; exact heap_alloc_new B _
  rw [e]
  exact ⟨(kA.trans (kB.mono fun k h => by omega)).trans (kC.mono fun k h => by omega), sC, (kC.block _ (by omega)).trans ((kB.block _ (by omega)).trans a0), (kC.block _ (by omega)).trans b0, c0⟩
set_option maxRecDepth 100000 in
set_option maxHeartbeats 4000000 in
theorem before_any (K : Nat → Prop) (p : Nat) (M : Dm) (R : Nat → List Nat) (rk : Nat → Nat) (w : World) (hd : DX K w p M) (hG : Good M R rk) (hn : M.n ≤ 100000) (a b ra rb : Int) (hra : RootI M a ra) (hrb : RootI M b rb) :
    Calls Tryz.prog 34 #[.pointer (some ⟨p, 0, none⟩), .int .i64 a, .int .i64 b] w fun e w' => e = .returned (.bool (befB M R a b ra rb)) ∧ Kept (fun k => k < w.heap.size) w w' := by
  obtain ⟨hk0, hs0, hb0, hb1, hb2⟩ := bf3_ok a b w
  obtain ⟨W0, hW0⟩ : ∃ W0, bf3 a b w = W0 := ⟨_, rfl⟩
  rw [hW0] at hk0 hs0 hb0 hb1 hb2
  have HW0 : Hid (((w.alloc (.cells #[.int .i64 a] 3)).alloc (.cells #[.int .i64 b] 3)).alloc (.cells #[.bool false] 4) = W0) := hW0
  obtain ⟨N, hN⟩ : ∃ N, w.heap.size = N := ⟨_, rfl⟩
  have HNN : Hid (w.heap.size = N) := hN
  rw [hN] at hb0 hb1 hb2
  have r1 := hra.calls (hd.kept hk0) hG hn
  have HRB : Hid (∀ X, Kept (fun k => k < W0.heap.size) W0 X → Calls Tryz.prog 26 #[.pointer (some ⟨p, 0, none⟩), .int .i64 b] X fun e w' => e = .returned (.int .i64 rb) ∧ Kept (fun k => k < X.heap.size) X w') := fun X hX => hrb.calls ((hd.kept hk0).kept hX) hG hn
  have HBK : Hid (∀ X, Kept (fun k => k < W0.heap.size) W0 X → X.heap[N]? = some (.cells #[.int .i64 a] 3 (0, 0)) ∧ X.heap[N + 1]? = some (.cells #[.int .i64 b] 3 (0, 0)) ∧ X.heap[N + 1 + 1]? = some (.cells #[.bool false] 4 (0, 0))) := fun X hX => ⟨(hX.block _ (lt_block hb0)).trans hb0, (hX.block _ (lt_block hb1)).trans hb1, (hX.block _ (lt_block hb2)).trans hb2⟩
  have HK0 : Hid (Kept (fun k => k < w.heap.size) w W0) := hk0
  have c0 : W0.cell? ⟨N, 0, none⟩ = some (.int .i64 a) := by rw [cell_block hb0]; rfl
  have HD : Hid (DX K w p M ∧ Good M R rk) := ⟨hd, hG⟩
  obtain ⟨bb, hbb⟩ : ∃ bb, befB M R a b ra rb = bb := ⟨_, rfl⟩
  have HBB : Hid (befB M R a b ra rb = bb) := hbb
  rw [hbb]
  clear hW0 hN hb0 hb1 hb2 hk0 hd hG hbb
  refine (callsIn_wide (n := 3)).1 ?_
  refine callsIn_of_wp_marks Tryz.func34 rfl trivial ?_ rfl
  simp only [Tryz.ntmps34, List.size_toArray, List.length_cons, List.length_nil, Nat.reduceAdd, Nat.reduceSub, Array.replicate_succ, Array.replicate_zero, List.push_toArray, List.append_toArray, List.nil_append, List.cons_append]
  gi_wp2_with fail
  rw [HW0.out, HNN.out]
  refine ⟨trivial, ?_⟩
  refine (callsIn_wide.2 r1).mono ?_
  rintro e v1 ⟨rfl, hk1⟩
  obtain ⟨g0, g1, g2⟩ := HBK.out v1 hk1
  have d0 : v1.cell? ⟨N, 0, none⟩ = some (.int .i64 a) := by rw [cell_block g0]; rfl
  have d1 : v1.cell? ⟨N + 1, 0, none⟩ = some (.int .i64 b) := by rw [cell_block g1]; rfl
  have d2 : v1.cell? ⟨N + 1 + 1, 0, none⟩ = some (.bool false) := by rw [cell_block g2]; rfl
  have f2 : v1.frozen? ⟨N + 1 + 1, 0, none⟩ = false := frozen_block g2 0
  have HK1 : Hid (Kept (fun k => k < w.heap.size) w v1) := HK0.out.trans (hk1.mono fun k h => Nat.lt_of_lt_of_le h HK0.out.size)
  have r2 := HRB.out v1 hk1
  have HL2 : Hid (N + 1 + 1 < v1.heap.size) := lt_block g2
  have HK01 : Hid (Kept (fun k => k < W0.heap.size) W0 v1) := hk1
  clear r1 c0 hk1 g0 g1 g2 HRB
  have hres : ∀ (v : Bool) (X : World), Kept (fun k => k < W0.heap.size) W0 X → (X.setCell ⟨N + 1 + 1, 0, none⟩ (.bool v)).cell? ⟨N + 1 + 1, 0, none⟩ = some (.bool v) ∧ Kept (fun k => k < w.heap.size) w (X.setCell ⟨N + 1 + 1, 0, none⟩ (.bool v)) := fun v X hX => by
    obtain ⟨-, -, g2⟩ := HBK.out X hX
    refine ⟨by rw [cell_block (heap_setCell_at g2 0 (.bool v))]; rfl, ?_⟩
    exact (HK0.out.trans (hX.mono fun k h => Nat.lt_of_lt_of_le h HK0.out.size)).setCell (p := ⟨N + 1 + 1, 0, none⟩) (by rw [HNN.out]; show ¬ N + 1 + 1 < N; omega) _
  by_cases q1 : a = b
  · subst q1
    have hB : bb = false := by rw [← HBB.out]; unfold befB; simp
    obtain ⟨z1, z2⟩ := hres false v1 HK01.out
    have HZ2 : Hid (Kept (fun k => k < w.heap.size) w (v1.setCell ⟨N + 1 + 1, 0, none⟩ (.bool false))) := z2
    clear hres z2
    gi_wp2
    refine ⟨trivial, ?_⟩
    gi_wp2
    refine ⟨.bool false, ?_, by rw [hB], HZ2.out⟩
    simp [results, Tryz.f34, go_sem, z1]
  · have e1 : (a == b) = false := by simpa using q1
    gi_wp2_with fail
    refine ⟨trivial, ?_⟩
    refine (callsIn_wide.2 r2).mono ?_
    rintro e v2 ⟨rfl, hk2⟩
    have k02 : Kept (fun k => k < W0.heap.size) W0 v2 := HK01.out.trans (hk2.mono fun k h => Nat.lt_of_lt_of_le h HK01.out.size)
    obtain ⟨g0, g1, g2⟩ := HBK.out v2 k02
    have d2' : v2.cell? ⟨N + 1 + 1, 0, none⟩ = some (.bool false) := by rw [cell_block g2]; rfl
    have f2' : v2.frozen? ⟨N + 1 + 1, 0, none⟩ = false := frozen_block g2 0
    by_cases q2 : ra = rb
    · subst q2
      have hB : bb = firstL a b (trI M.n R ra) := by rw [← HBB.out]; unfold befB; rw [e1]; simp
      have k2 : Kept (fun k => k < w.heap.size) w v2 := HK1.out.trans (hk2.mono fun k h => Nat.lt_of_lt_of_le h HK1.out.size)
      obtain ⟨t1, t2, t3, t4, t5⟩ := fr3_ok p 82 ra v2
      have r3 := from_any p 82 ra v2
      clear r2 hk2 d0 d1 d2 f2 hres
      gi_wp2_with fail
      refine ⟨trivial, ?_⟩
      refine (callsIn_wide.2 r3).mono ?_
      rintro e w3 ⟨rfl, hw3⟩
      obtain ⟨WL, hWL⟩ : ∃ WL, fr3 p 82 ra v2 = WL := ⟨_, rfl⟩
      replace hw3 : w3 = WL := hw3.trans hWL
      subst hw3
      obtain ⟨WL, rfl⟩ : ∃ WL, WL = w3 := ⟨_, rfl⟩
      rw [hWL] at t1 t2 t3 t4 t5
      clear r3 hWL
      gi_wp2
      have hnv : N + 1 + 1 < v2.heap.size := lt_block g2
      have hWs : v2.heap.size ≤ WL.heap.size := t1.size
      have hkw : Kept (fun k => k < w.heap.size) w WL := k2.trans (t1.mono fun k h => Nat.lt_of_lt_of_le h k2.size)
      have hseq := from_stops K p M R rk w HD.out.1 HD.out.2 hn R HD.out.2.falls (fun i hi => by have := HD.out.2.wf.len_le hi; omega) 82 (kids_ok M R) enter82 ra (3 - 1) v2.heap.size (v2.heap.size + 1) (v2.heap.size + 2) WL hkw (fun W => N + 1 + 1 < W.heap.size) (fun _ k => k = N + 1 + 1) (mineC _ _ (by rw [HNN.out]; omega)) (fun W hW => Nat.lt_of_lt_of_le (by omega) hW.size) t3 t4 t5 (by omega) (by omega) (by omega)
      rw [HNN.out] at hseq
      have h0 : Bef w N a b WL := ⟨(t1.cell (p := ⟨N, 0, none⟩) (by show N < _; omega)).trans (by rw [cell_block g0]; rfl), (t1.cell (p := ⟨N + 1, 0, none⟩) (by show N + 1 < _; omega)).trans (by rw [cell_block g1]; rfl), ⟨false, (t1.cell (p := ⟨N + 1 + 1, 0, none⟩) hnv).trans d2'⟩, frozen_block ((t1.block _ hnv).trans g2) 0, by rw [← HNN.out]; exact hkw.below⟩
      obtain ⟨T, hT⟩ : ∃ T, trI M.n R ra = T := ⟨_, rfl⟩
      rw [hT] at hseq hB
      clear g0 g1 g2 d2' f2' t3 t4 t5 hT k02
      refine wpIn_rangeFunc_ownG rfl (by omega) (gf := 141) (lb := #[.pointer (some ⟨v2.heap.size, 0, none⟩), .pointer (some ⟨v2.heap.size + 1, 0, none⟩), .pointer (some ⟨v2.heap.size + 2, 0, none⟩)]) rfl trivial (enters_of Tryz.func141 (by kernel_rfl) rfl)
        hseq kpS_t (kpC_b (by omega) (by omega)) (Below.refl _ _) (fun _ => rfl)
        (fun pre W => (∀ y ∈ pre, ¬ ((y : Int) = a ∨ (y : Int) = b)) ∧ Bef w N a b W)
        (fun c pre W => c = .ret ∧ (∃ (q : List Nat) (x : Nat), pre = q ++ [x] ∧ (∀ y ∈ q, ¬ ((y : Int) = a ∨ (y : Int) = b)) ∧ ((x : Int) = a ∨ (x : Int) = b) ∧ W.cell? ⟨N + 1 + 1, 0, none⟩ = some (.bool (decide ((x : Int) = a)))) ∧ Below N w W)
        (fun s A B row hs hg hr => ⟨hs.1, ⟨cell_kept hs.2.c0 hg (fun r e => (hr r e).2), cell_kept hs.2.c1 hg (fun r e => (hr r e).2), ⟨_, cell_kept hs.2.c2.choose_spec hg (fun r e => (hr r e).2)⟩, (frozen_kept hs.2.c2.choose_spec hg (fun r e => (hr r e).2)).trans hs.2.f2, hs.2.bel.grown hg (Nat.le_trans (by rw [← HNN.out]; exact Nat.le_refl _) hs.2.bel.size) (fun k e => by have := (hr k e).1; omega)⟩⟩)
        (fun c s A B row hs hg hr => by
          obtain ⟨h1, ⟨q, x, h2, h3, h4, h5⟩, h6⟩ := hs
          exact ⟨h1, ⟨q, x, h2, h3, h4, cell_kept h5 hg (fun r e => (hr r e).2)⟩, h6.grown hg (Nat.le_trans (by rw [← HNN.out]; exact Nat.le_refl _) h6.size) (fun k e => by have := (hr k e).1; omega)⟩)
        ⟨by simp, h0⟩ (fun x => { tmps := #[.pointer (some ⟨p, 0, none⟩), .int .i64 a, .int .i64 b, undef, .pointer (some ⟨N, 0, none⟩), .pointer (some ⟨N + 1, 0, none⟩), .pointer (some ⟨N + 1 + 1, 0, none⟩), .int .i64 ra, .int .i64 (x : Int), .pointer (some ⟨p, 0, none⟩), .int .i64 a, .int .i64 ra, .int .i64 a, .int .i64 b, .bool false, .bool false, .int .i64 ra, .pointer (some ⟨p, 0, none⟩), .int .i64 b, .int .i64 ra, .bool false, .bool false, .pointer (some ⟨p, 0, none⟩), .int .i64 ra, .func (.func 141) #[] #[.pointer (some ⟨v2.heap.size, 0, none⟩), .pointer (some ⟨v2.heap.size + 1, 0, none⟩), .pointer (some ⟨v2.heap.size + 2, 0, none⟩)], .int .i64 (x : Int), undef, undef, undef, undef, undef, undef, undef, undef, undef, undef, undef], defers := [] }) ?assign ?body ?done ?stop
      case assign =>
        intro l x W K hK
        gi_wp2
        exact hK
      case body =>
        rintro l pre x W ⟨hp, hbef⟩ _
        have b0 := hbef.c0
        have b1 := hbef.c1
        obtain ⟨v, b2⟩ := hbef.c2
        have fz := hbef.f2
        have HP : Hid ((∀ y ∈ pre, ¬ ((y : Int) = a ∨ (y : Int) = b)) ∧ Bef w N a b W) := ⟨hp, hbef⟩
        have hbW : ∀ u, Below N w (W.setCell ⟨N + 1 + 1, 0, none⟩ (.bool u)) := fun u => hbef.bel.setCell (p := ⟨N + 1 + 1, 0, none⟩) (by show N ≤ N + 1 + 1; omega) _
        have HBW : Hid (∀ u, Below N w (W.setCell ⟨N + 1 + 1, 0, none⟩ (.bool u))) := hbW
        clear hp hbef hbW
        by_cases qa : (x : Int) = a
        · have s1 : ((x : Int) == a) = true := by simpa using qa
          gi_wp2
          exact ⟨(KeepsOthers.setCell _ _ _).from _, rfl, ⟨pre, x, rfl, HP.out.1, .inl qa, by rw [decide_eq_true qa]; exact World.cell?_setCell_same' _ _ _ (by rw [b2]; rfl)⟩, HBW.out _⟩
        · have s1 : ((x : Int) == a) = false := by simpa using qa
          by_cases qb : (x : Int) = b
          · have s2 : ((x : Int) == b) = true := by simpa using qb
            have s3 : (b == a) = false := by rw [← qb]; exact s1
            gi_wp2
            exact ⟨(KeepsOthers.setCell _ _ _).from _, rfl, ⟨pre, x, rfl, HP.out.1, .inr qb, by rw [decide_eq_false qa]; exact World.cell?_setCell_same' _ _ _ (by rw [b2]; rfl)⟩, HBW.out _⟩
          · have s2 : ((x : Int) == b) = false := by simpa using qb
            gi_wp2
            exact ⟨KeepsFrom.refl _ _, ⟨⟨Below.refl _ _, fun k o hk ho hm => ⟨hk, hm⟩⟩, fun hs => hs⟩, fun y hy => (List.mem_append.1 hy).elim (HP.out.1 y) (fun e => by rw [List.mem_singleton.1 e]; exact fun h => h.elim qa qb), HP.out.2⟩
      case done =>
        rintro D ys W hD hys ⟨hp, hbef⟩ hK
        subst hys
        have hB' : bb = false := by rw [hB]; exact firstL_no hp
        obtain ⟨v, b2⟩ := hbef.c2
        have fz := hbef.f2
        have HBL : Hid (Below N w W) := hbef.bel
        clear hbef
        gi_wp2
        have hK' := (KeepsOthers.setCell W ⟨N + 1 + 1, 0, none⟩ (.bool false)).same D _ hK rfl
        refine ⟨by simp, .inl ⟨_, _, rfl, run_takeDeferred hK', ?_⟩⟩
        have hc5 := cell_kept (World.cell?_setCell_same' W ⟨N + 1 + 1, 0, none⟩ (.bool false) (by rw [b2]; rfl)) (grownBy_putObj' _ D (.deferred none)) (fun r e => by cases e; exact ⟨_, hK', rfl⟩)
        refine ⟨.bool false, ?_, by rw [hB'], ?_⟩
        · simp [results, Tryz.f34, go_sem, hc5]
        · rw [HNN.out]
          exact Below.kept ((HBL.out.setCell (p := ⟨N + 1 + 1, 0, none⟩) (by show N ≤ N + 1 + 1; omega) _).trans (belowK_b (w := WL) (by omega) _ D _ _ hD hK' rfl rfl))
      case stop =>
        rintro D c pre W hD hpre ⟨rfl, ⟨q, x, rfl, h3, h4, h5⟩, h6⟩ hK
        obtain ⟨tl, htl⟩ := hpre
        have hB' : bb = decide ((x : Int) = a) := by
          rw [hB, ← htl, List.append_assoc]
          exact firstL_at tl h3 h4
        gi_wp2
        refine ⟨by simp, .inl ⟨_, _, rfl, run_takeDeferred hK, ?_⟩⟩
        have hc5 := cell_kept h5 (grownBy_putObj' _ D (.deferred none)) (fun r e => by cases e; exact ⟨_, hK, rfl⟩)
        refine ⟨.bool (decide ((x : Int) = a)), ?_, by rw [hB'], ?_⟩
        · simp [results, Tryz.f34, go_sem, hc5]
        · rw [HNN.out]
          exact Below.kept (h6.trans (belowK_b (w := WL) (by omega) _ D _ _ hD hK rfl rfl))
    · have e2 : (ra != rb) = true := by simpa using q2
      have hB : bb = false := by
        rw [← HBB.out]; unfold befB
        have : (ra == rb) = false := by simpa using q2
        rw [this]; simp
      obtain ⟨z1, z2⟩ := hres false v2 k02
      have HZ2 : Hid (Kept (fun k => k < w.heap.size) w (v2.setCell ⟨N + 1 + 1, 0, none⟩ (.bool false))) := z2
      clear hres z2 r2 hk2 g0 g1 g2
      gi_wp2
      refine ⟨.bool false, ?_, by rw [hB], HZ2.out⟩
      simp [results, Tryz.f34, go_sem, z1]
end Go.Proofs.YtbhfnbplbkncmaaGreat
