/-
  The document's own New, Root.
  The document's own Root.
-/
import Derived.Test.YtbhfnbplbkncmaaGreatZ22
import Derived.Test.YtbhfnbplbkncmaaGreatZ14
namespace Go.Proofs.YtbhfnbplbkncmaaGreat
open Go.RowKit Go.Sort
set_option linter.unusedVariables false
theorem rnew_no (limit : Int) (w : World) (h : limit < 1 ∨ 5000 < limit) : Calls Tryz.prog 45 #[.int .i64 limit] w fun e w' => e = .returned (.pointer none) ∧ w' = w := by
  rcases h with h | h
  · have h1 : decide (limit < 1) = true := decide_eq_true h
    go_enter Tryz.func45, Tryz.ntmps45
    go_wp2
    go_ret
    exact ⟨rfl, rfl⟩
  · have h1 : decide (limit < 1) = false := decide_eq_false (by omega)
    have h2 : decide (limit > 5000) = true := decide_eq_true (by omega)
    go_enter Tryz.func45, Tryz.ntmps45
    go_wp2
    go_ret
    exact ⟨rfl, rfl⟩
def RA.none : RA := ⟨.none, 0, .none, 0, fun _ => .none, fun _ => 0, fun _ => .none, fun _ => 0, fun _ => .none, fun _ => 0⟩
theorem builtR4 : Tryz.prog.built 36 [(0, .int .u8 4)] = some (rV 4 ⟨#[]⟩ ⟨#[]⟩ none 0 0 0 none 0 0 0 0 0 ⟨false, false, false, false, false⟩) := by kernel_rfl
set_option maxRecDepth 20000 in
theorem rnew_yes (limit : Nat) (w : World) (h1 : 1 ≤ limit) (h2 : limit ≤ 5000) : Calls Tryz.prog 45 #[.int .i64 (limit : Int)] w fun e w' => ∃ p, e = .returned (.pointer (some ⟨p, 0, none⟩)) ∧ w.heap.size ≤ p ∧ RX (fun k => k < w.heap.size) w' p (Dm.new limit) (fun _ => []) (fun _ => []) ∧ Kept (fun k => k < w.heap.size) w w' := by
  obtain ⟨W, hW⟩ : ∃ W, w.alloc (.cells #[.int .i64 (limit : Int), .slice none 0 0, .slice none 0 0] 61) = W := ⟨_, rfl⟩
  obtain ⟨N, hN⟩ : ∃ N, w.heap.size = N := ⟨_, rfl⟩
  have kW : Kept (fun k => k < w.heap.size) w W := by rw [← hW]; exact (Kept.refl _ w).alloc (fun _ h => h) _
  have hY : RX (fun k => k < w.heap.size) W N { limit := limit, n := 0, nd := fun _ => frag0, pl := fun _ => Lk.nil, gf := fun _ => Lk.nil } (fun _ => []) (fun _ => []) := by
    refine ⟨RA.none, fun k hk => Nat.lt_of_lt_of_le hk kW.size, by rw [← hN]; exact Nat.lt_irrefl _, by rw [← hW, ← hN]; exact heap_alloc_new w _, ⟨[], OwnZ.nil _ _ _ _, fun i hi => absurd hi (Nat.not_lt_zero _)⟩, ⟨[], OwnZ.nil _ _ _ _, fun i hi => absurd hi (Nat.not_lt_zero _)⟩, fun i hi => absurd hi (Nat.not_lt_zero _), fun i j hi => absurd hi (Nat.not_lt_zero _), fun i hi => absurd hi (Nat.not_lt_zero _), fun i hi => absurd hi (Nat.not_lt_zero _), fun i hi => absurd hi (Nat.not_lt_zero _), fun i hi => absurd hi (Nat.not_lt_zero _)⟩
  have r := radd_any (fun k => k < w.heap.size) N _ _ _ W W hY (Kept.refl _ _) (Nat.zero_le _) frag0 none 0 (AtsAt.nil _ _ _) (Nat.le_refl _)
  have HR : Hid (Calls Tryz.prog 112 #[.pointer (some ⟨N, 0, none⟩), .agg (rV 4 ⟨#[]⟩ ⟨#[]⟩ none 0 0 0 none 0 0 0 0 0 ⟨false, false, false, false, false⟩)] W fun e w' => e = .returned (.int .i64 0) ∧ RX (fun k => k < w.heap.size) w' N (Dm.new limit) (fun _ => []) (fun _ => []) ∧ Kept (fun k => k < w.heap.size) W w') := r.mono fun e w' hh => ⟨hh.1, hh.2.1.congr rfl rfl (fun _ _ => rfl) (fun _ _ => rfl) (fun i _ => by unfold updR; split <;> rfl) (fun i _ => by unfold updR; split <;> rfl), hh.2.2⟩
  have HW : Hid (w.alloc (.cells #[.int .i64 (limit : Int), .slice none 0 0, .slice none 0 0] 61) = W) := hW
  have HN : Hid (w.heap.size = N) := hN
  have HK : Hid (Kept (fun k => k < w.heap.size) w W) := kW
  have e1 : decide ((limit : Int) < 1) = false := decide_eq_false (by omega)
  have e2 : decide ((limit : Int) > 5000) = false := decide_eq_false (by omega)
  clear r hW hN kW hY
  go_enter Tryz.func45, Tryz.ntmps45
  go_wp2_with fail
  rw [HW.out, HN.out]
  refine HR.out.mono ?_
  rintro e w1 ⟨rfl, hX, hK1⟩
  have HX : Hid (RX (fun k => k < w.heap.size) w1 N (Dm.new limit) (fun _ => []) (fun _ => [])) := hX
  have HK1 : Hid (Kept (fun k => k < w.heap.size) w w1) := HK.out.trans hK1
  clear hX hK1 HR
  go_wp2
  go_ret
  exact ⟨N, rfl, by rw [HN.out]; exact Nat.le_refl _, HX.out, HK1.out⟩
end Go.Proofs.YtbhfnbplbkncmaaGreat

namespace Go.Proofs.YtbhfnbplbkncmaaGreat
open Go.RowKit Go.Sort
set_option linter.unusedVariables false
set_option maxRecDepth 20000 in
theorem rroot_none (K : Nat → Prop) (p : Nat) (M : Dm) (R G : Nat → List Nat) (i : Int) (f : Fg) (w : World) (h : RX K w p M R G) (hi : i < 0 ∨ (M.n : Int) ≤ i) :
    Calls Tryz.prog 92 #[.pointer (some ⟨p, 0, none⟩), .int .i64 i, fgV f] w fun e w' => e = .returned (.tuple #[.int .i64 0, .int .i64 80]) ∧ Kept (fun k => k < w.heap.size) w w' := by
  have kb : ∀ o : Obj, Kept (fun k => k < w.heap.size) w (w.alloc o) := fun o => (Kept.refl _ w).alloc (fun _ h => h) _
  have rt := fun o => rthere_any K p M R G i (w.alloc o) (h.kept (kb o))
  rw [there_no hi] at rt
  have HK : Hid (∀ o : Obj, Kept (fun k => k < w.heap.size) w (w.alloc o)) := kb
  clear h hi kb
  go_enter Tryz.func92, Tryz.ntmps92
  go_wp2_with (go_at_call 148; refine (rt _).mono ?_; rintro e1 w3 ⟨rfl, hw3⟩; replace hw3 := hw3.symm; subst hw3)
  go_ret2
  exact ⟨rfl, HK.out _⟩
/-- What the document's own Root answers of a node that is there. -/
inductive RRoots (K : Nat → Prop) (p : Nat) (M : Dm) (R G : Nat → List Nat) (host : Nat) (f : Fg) (e : Ending) (w' : World) : Prop
  | host : (M.nd host).kind ≠ 1 → e = .returned (.tuple #[.int .i64 0, .int .i64 100]) → RX K w' p M R G → RRoots K p M R G host f e w'
  | twice : (M.nd host).kind = 1 → (M.nd host).shadow ≠ -1 → e = .returned (.tuple #[.int .i64 0, .int .i64 101]) → RX K w' p M R G → RRoots K p M R G host f e w'
  | full : (M.nd host).kind = 1 → (M.nd host).shadow = -1 → M.limit < M.n + 1 → e = .returned (.tuple #[.int .i64 0, .int .i64 3]) → RX K w' p M R G → RRoots K p M R G host f e w'
  | made : (M.nd host).kind = 1 → (M.nd host).shadow = -1 → M.n + 1 ≤ M.limit → e = .returned (.tuple #[.int .i64 (M.n : Int), .int .i64 0]) → RX K w' p (M.addR host f) (updR R M.n []) (updR G M.n []) → RRoots K p M R G host f e w'
def shX (f : Fg) (host : Nat) : Nd := { shN f with host := (host : Int) }
theorem builtR5 (f : Fg) (z : Int) : Tryz.prog.built 36 [(0, .int .u8 5), (9, .agg #[.bool f.a, .bool f.b, .bool f.c, .bool f.d, .bool f.e]), (7, .int .i64 z)] = some (rV 5 ⟨#[]⟩ ⟨#[]⟩ none 0 0 0 none 0 0 0 z 0 f) := by kernel_rfl
theorem setN_same (M : Dm) (i : Nat) (x : Nd) : (M.setN i x).nd i = x := if_pos rfl
theorem setN_ne (M : Dm) {i j : Nat} (x : Nd) (h : j ≠ i) : (M.setN i x).nd j = M.nd j := if_neg h
theorem addX_addR {M : Dm} {host : Nat} {f : Fg} (hh : host < M.n) : ∀ i, i < M.n + 1 → (M.addR host f).nd i = ((M.addX (rNew (shX f host))).setN host { (M.addX (rNew (shX f host))).nd host with shadow := (M.n : Int) }).nd i := by
  intro i hi
  by_cases c : i = host
  · subst c
    rw [addR_host _ _ _ (by omega), setN_same]
    have : (M.addX (rNew (shX f i))).nd i = M.nd i := if_neg (by omega)
    rw [this]
  · rw [setN_ne _ _ c]
    by_cases c2 : i = M.n
    · subst c2
      rw [addR_new _ _ _ (by omega)]
      have : (M.addX (rNew (shX f host))).nd M.n = rNew (shX f host) := if_pos rfl
      rw [this]
      rfl
    · rw [addR_old _ _ _ c2 c]
      exact (if_neg c2).symm
set_option maxRecDepth 20000 in
set_option maxHeartbeats 4000000 in
theorem rroot_in (K : Nat → Prop) (p host : Nat) (M : Dm) (R G : Nat → List Nat) (f : Fg) (w : World) (h : RX K w p M R G) (hi : host < M.n) (hn : M.n ≤ 100000) (hL : M.limit ≤ 100000) (hsh : (M.nd host).shadow = -1 ∨ 0 ≤ (M.nd host).shadow) :
    Calls Tryz.prog 92 #[.pointer (some ⟨p, 0, none⟩), .int .i64 (host : Int), fgV f] w fun e w' => Kept K w w' ∧ RRoots K p M R G host f e w' := by
  obtain ⟨W, hW⟩ : ∃ W, w.alloc (.cells #[.bool f.a, .bool f.b, .bool f.c, .bool f.d, .bool f.e] 34) = W := ⟨_, rfl⟩
  obtain ⟨N, hN⟩ : ∃ N, w.heap.size = N := ⟨_, rfl⟩
  have kW : Kept (fun k => k < w.heap.size) w W := by rw [← hW]; exact (Kept.refl _ w).alloc (fun _ h => h) _
  have hfb : W.heap[N]? = some (.cells #[.bool f.a, .bool f.b, .bool f.c, .bool f.d, .bool f.e] 34 (0, 0)) := by rw [← hW, ← hN]; exact heap_alloc_new w _
  have hXW := h.kept kW
  have rt := rthere_any K p M R G (host : Int) W hXW
  rw [there_yes hi] at rt
  have HX : Hid (RX K W p M R G) := hXW
  have HKW : Hid (Kept K w W) := kW.mono h.lt
  have HFB : Hid (W.heap[N]? = some (.cells #[.bool f.a, .bool f.b, .bool f.c, .bool f.d, .bool f.e] 34 (0, 0))) := hfb
  obtain ⟨A, hY⟩ := hXW
  obtain ⟨g, hg, -, -, hgl⟩ := hY.nat (by omega)
  have c1 := hY.c1
  rw [hg] at c1
  have cL := hY.c0
  have c0 : W.cell? ⟨g, host * 14, none⟩ = some (.int .u8 ((M.nd host).kind : Int)) := hY.cell hg hi 0 _ rfl
  have c6 : W.cell? ⟨g, host * 14 + 6, none⟩ = some (.int .i64 (M.nd host).shadow) := hY.cell hg hi 6 _ rfl
  have HW : Hid (w.alloc (.cells #[.bool f.a, .bool f.b, .bool f.c, .bool f.d, .bool f.e] 34) = W) := hW
  have HN : Hid (w.heap.size = N) := hN
  obtain ⟨kd, hkd⟩ : ∃ kd, (M.nd host).kind = kd := ⟨_, rfl⟩
  have HKD : Hid ((M.nd host).kind = kd) := hkd
  rw [hkd] at c0
  obtain ⟨s, hs⟩ : ∃ s, (M.nd host).shadow = s := ⟨_, rfl⟩
  have HSH : Hid ((M.nd host).shadow = s) := hs
  rw [hs] at c6 hsh
  clear hY hg h hW hN kW hkd hs
  by_cases q1 : kd = 1
  · subst q1
    rcases hsh with hsn | hsp
    · subst hsn
      have e0 : decide ((-1 : Int) ≥ 0) = false := by decide
      obtain ⟨n, hne⟩ : ∃ n, M.n = n := ⟨_, rfl⟩
      obtain ⟨L, hLe⟩ : ∃ L, M.limit = L := ⟨_, rfl⟩
      have HNE : Hid (M.n = n) := hne
      have HLE : Hid (M.limit = L) := hLe
      rw [hne] at c1 hi hn
      rw [hLe] at cL hL
      by_cases hroom : L ≤ n
      · have e1 : decide ((n : Int) ≥ (L : Int)) = true := decide_eq_true (by omega)
        clear hfb hne hLe
        go_enter Tryz.func92, Tryz.ntmps92
        go_upto_region 1 with fail
        rw [HW.out, HN.out]
        go_upto_region 7 with (go_at_call 148; refine rt.mono ?_; rintro e1 w3 ⟨rfl, hw3⟩; replace hw3 := hw3.symm; subst hw3)
        go_quiet (fail)
        go_wp2
        go_ret2
        exact ⟨HKW.out.drewN nq, .full HKD.out HSH.out (by rw [HNE.out, HLE.out]; omega) rfl (HX.out.kept ((Kept.refl _ W).drewN nq))⟩
      · have e1 : decide ((n : Int) ≥ (L : Int)) = false := decide_eq_false (by omega)
        have b0 : ∀ m, (W.drewN m).cell? ⟨N, 0, none⟩ = some (.bool f.a) := fun m => by show W.cell? _ = _; rw [cell_block hfb]; rfl
        have b1 : ∀ m, (W.drewN m).cell? ⟨N, 1, none⟩ = some (.bool f.b) := fun m => by show W.cell? _ = _; rw [cell_block hfb]; rfl
        have b2 : ∀ m, (W.drewN m).cell? ⟨N, 2, none⟩ = some (.bool f.c) := fun m => by show W.cell? _ = _; rw [cell_block hfb]; rfl
        have b3 : ∀ m, (W.drewN m).cell? ⟨N, 3, none⟩ = some (.bool f.d) := fun m => by show W.cell? _ = _; rw [cell_block hfb]; rfl
        have b4 : ∀ m, (W.drewN m).cell? ⟨N, 4, none⟩ = some (.bool f.e) := fun m => by show W.cell? _ = _; rw [cell_block hfb]; rfl
        have ra := fun m => radd_any K p M R G (W.drewN m) (W.drewN m) (HX.out.kept ((Kept.refl _ W).drewN m)) (Kept.refl _ _) (by rw [HNE.out]; omega) (shX f host) none 0 (AtsAt.nil _ _ _) (Nat.le_refl _)
        have hbu := builtR5 f (host : Int)
        have hnl : n ≤ 100000 := hn
        rw [hne] at ra
        clear hfb hne hLe
        go_enter Tryz.func92, Tryz.ntmps92
        go_upto_region 1 with fail
        rw [HW.out, HN.out]
        go_upto_region 7 with (go_at_call 148; refine rt.mono ?_; rintro e1 w3 ⟨rfl, hw3⟩; replace hw3 := hw3.symm; subst hw3)
        go_quiet (fail)
        go_upto_region 9 with fail
        go_wp2_with fail
        refine (ra nq).mono ?_
        rintro e w5 ⟨rfl, ⟨A5, hY5⟩, hK5⟩
        have hn5 : (M.addX (rNew (shX f host))).n = n + 1 := by show M.n + 1 = _; rw [HNE.out]
        have hi5 : host < (M.addX (rNew (shX f host))).n := by rw [hn5]; omega
        obtain ⟨g5, hg5, -, -, -⟩ := hY5.nat (by rw [hn5]; omega)
        have d1 := hY5.c1
        rw [hg5, hn5] at d1
        have d6 : w5.cell? ⟨g5, host * 14 + 6, none⟩ = some (.int .i64 ((M.addX (rNew (shX f host))).nd host).shadow) := hY5.cell hg5 hi5 6 _ rfl
        have f6 := hY5.fg hg5 (host * 14 + 6)
        obtain ⟨hY6, hK6⟩ := hY5.setShadow hg5 hi5 (n : Int)
        have HX6 : Hid (RX K (w5.setCell ⟨g5, host * 14 + 6, none⟩ (.int .i64 (n : Int))) p (M.addR host f) (updR R M.n []) (updR G M.n [])) := by
          have hhn : host < M.n := by rw [HNE.out]; exact hi
          have : RX K (w5.setCell ⟨g5, host * 14 + 6, none⟩ (.int .i64 (n : Int))) p ((M.addX (rNew (shX f host))).setN host { (M.addX (rNew (shX f host))).nd host with shadow := (M.n : Int) }) (updR R M.n []) (updR G M.n []) := by rw [HNE.out]; exact ⟨_, hY6⟩
          exact (show Hid _ from this.congr rfl rfl (fun i hi => addX_addR hhn i hi) (fun _ _ => rfl) (fun _ _ => rfl) (fun _ _ => rfl))
        have HK6 : Hid (Kept K w (w5.setCell ⟨g5, host * 14 + 6, none⟩ (.int .i64 (n : Int)))) := ((HKW.out.drewN nq).trans hK5).trans hK6
        clear hY5 hK5 hY6 hK6 ra hbu b0 b1 b2 b3 b4 hi5 hg5
        go_wp2
        go_ret2
        exact ⟨HK6.out, .made HKD.out HSH.out (by rw [HNE.out, HLE.out]; omega) (by rw [HNE.out]; rfl) HX6.out⟩
    · have e0 : decide (s ≥ 0) = true := decide_eq_true hsp
      clear hfb
      go_enter Tryz.func92, Tryz.ntmps92
      go_upto_region 1 with fail
      rw [HW.out, HN.out]
      go_wp2_with (go_at_call 148; refine rt.mono ?_; rintro e1 w3 ⟨rfl, hw3⟩; replace hw3 := hw3.symm; subst hw3)
      go_ret2
      exact ⟨HKW.out, .twice HKD.out (by rw [HSH.out]; omega) rfl HX.out⟩
  · have p1 : ((kd : Int) == 1) = false := by simp; omega
    have n1 : ((kd : Int) != 1) = true := by simp; omega
    clear hfb
    go_enter Tryz.func92, Tryz.ntmps92
    go_upto_region 1 with fail
    rw [HW.out, HN.out]
    go_wp2_with (go_at_call 148; refine rt.mono ?_; rintro e1 w3 ⟨rfl, hw3⟩; replace hw3 := hw3.symm; subst hw3)
    go_ret2
    exact ⟨HKW.out, .host (by rw [HKD.out]; exact q1) rfl HX.out⟩
end Go.Proofs.YtbhfnbplbkncmaaGreat
