/-
  query.ByID: the first that has an id.
-/
import Derived.Test.YtojbjiopilkbgaaQd
namespace Go.Proofs.Ytojbjiopilkbgaa
open Go.RowKit Go.Shelf
set_option linter.unusedVariables false
attribute [local go_sem] Oper.semAt_some
def fstI : List Nat → Int
  | [] => -1
  | x :: _ => (x : Int)
/-- What ByID tells. -/
def idI (S : List UInt8) (l : List Nat) : Int := if S = [] then -1 else fstI l
theorem mineN (n₀ : Nat) : Mine n₀ (fun _ => True) (fun _ _ => False) := ⟨fun _ _ _ h => h.elim, fun _ _ _ _ => ⟨trivial, fun _ h => h⟩⟩
theorem kpN_b {n₀ : Nat} {w : World} (hn : n₀ ≤ w.heap.size) (W : World) (l : Nat) (o o' : Obj) (hl : w.heap.size ≤ l) (h : W.heap[l]? = some o) (hc : o.isCells = false) (hw : o.isWalk = false) : KpS n₀ (fun _ => True) (fun _ _ => False) W (W.putObj l o') := by
  refine ⟨⟨belowK_b hn W l o o' hl h hc hw, fun k q hk ho hm => ⟨?_, fun h => h⟩⟩, fun _ => trivial⟩
  rw [World.putObj_heap_other (fun e => by rw [e, h] at hk; injection hk with hk; rw [hk, ho] at hc; cases hc)]
  exact hk
set_option maxRecDepth 100000 in
set_option maxHeartbeats 4000000 in
theorem byID_any {K : Nat → Prop} {p : Nat} {M : Dm} {R : Nat → List Nat} {rk : Nat → Nat} {w : World} (hd : DX K w p M) (hG : Good M R rk) (hn : M.n ≤ 100000) (S : ByteArray) (i : Int) (L : List Nat) (hL : qL M R (havB [105, 100] S.toList) i = L) :
    Calls Try.prog 11 #[.pointer (some ⟨p, 0, none⟩), .int .i64 i, .string S] w fun e w' => e = .returned (.int .i64 (idI S.toList L)) ∧ Kept (fun k => k < w.heap.size) w w' := by
  obtain ⟨W0, N, hW0, hN, hb0, hk0, hz0⟩ := alloc_bw w #[.int .i64 0] 3
  have HW0 : Hid (w.alloc (.cells #[.int .i64 0] 3) = W0) := hW0
  have HNN : Hid (w.heap.size = N) := hN
  have hNW : N < W0.heap.size := lt_block hb0
  have HBK : Hid (∀ X, Kept (fun k => k < W0.heap.size) W0 X → X.heap[N]? = some (.cells #[.int .i64 0] 3 (0, 0))) := fun X hX => (hX.block _ (lt_block hb0)).trans hb0
  have HK0 : Hid (Kept (fun k => k < w.heap.size) w W0) := hk0
  have hres : ∀ (v : Int) (X : World), Kept (fun k => k < W0.heap.size) W0 X → (X.setCell ⟨N, 0, none⟩ (.int .i64 v)).cell? ⟨N, 0, none⟩ = some (.int .i64 v) ∧ Kept (fun k => k < w.heap.size) w (X.setCell ⟨N, 0, none⟩ (.int .i64 v)) := fun v X hX => by
    have g2 := HBK.out X hX
    refine ⟨by rw [cell_block (heap_setCell_at g2 0 (.int .i64 v))]; rfl, ?_⟩
    exact (HK0.out.trans (hX.mono fun k h => Nat.lt_of_lt_of_le h HK0.out.size)).setCell (p := ⟨N, 0, none⟩) (by rw [HNN.out]; exact Nat.lt_irrefl _) _
  obtain ⟨z, hz⟩ : ∃ z, idI S.toList L = z := ⟨_, rfl⟩
  have HZ : Hid (idI S.toList L = z) := hz
  rw [hz]
  have d0 : W0.cell? ⟨N, 0, none⟩ = some (.int .i64 0) := by rw [cell_block hb0]; rfl
  have f0 : W0.frozen? ⟨N, 0, none⟩ = false := frozen_block hb0 0
  refine (callsIn_wide (n := 3)).1 ?_
  by_cases hS : S.toList = []
  · have e1 : (S.toList == []) = true := by rw [hS]; rfl
    have e2 : z = -1 := by rw [← hz]; exact if_pos hS
    subst e2
    obtain ⟨z1, z2⟩ := hres (-1) W0 (Kept.refl _ _)
    have HZ2 : Hid (Kept (fun k => k < w.heap.size) w (W0.setCell ⟨N, 0, none⟩ (.int .i64 (-1)))) := z2
    clear hd hG hn hL hW0 hN hb0 hk0 hz0 hres hz hS z2
    refine callsIn_of_wp_marks Try.func11 rfl trivial ?_ rfl
    simp only [Try.ntmps11, List.size_toArray, List.length_cons, List.length_nil, Nat.reduceAdd, Nat.reduceSub, Array.replicate_succ, Array.replicate_zero, List.push_toArray, List.append_toArray, List.nil_append, List.cons_append]
    gi_wp2_with (rw [HW0.out, HNN.out])
    refine ⟨.int .i64 (-1), ?_, rfl, HZ2.out⟩
    simp [results, Try.f11, go_sem, z1]
  · have e1 : (S.toList == []) = false := beq_eq_false_iff_ne.2 hS
    have HZ1 : Hid (z = fstI L) := by rw [← hz]; exact if_neg hS
    obtain ⟨V, hV, hkV, hzV, v1, v2⟩ := hv2_ok ⟨#[105, 100]⟩ S W0
    have rn := havingQ_any ⟨#[105, 100]⟩ S W0
    rw [hV] at rn
    obtain ⟨B, hB⟩ : ∃ B, W0.heap.size = B := ⟨_, rfl⟩
    rw [hB] at rn v1 v2 hzV
    have r0 := withinQ_any p 47 #[.pointer (some ⟨B, 0, none⟩), .pointer (some ⟨B + 1, 0, none⟩)] i V
    obtain ⟨WL, hWL, hkL, hzL, c0, c1, c2⟩ := frW_ok p i (.func (.func 47) #[] #[.pointer (some ⟨B, 0, none⟩), .pointer (some ⟨B + 1, 0, none⟩)]) V
    obtain ⟨C, hC⟩ : ∃ C, V.heap.size = C := ⟨_, rfl⟩
    rw [hWL, hC] at r0
    rw [hC] at c0 c1 c2 hzL
    have hs := (Sgt.hav V M (fun k hk => Nat.le_trans (hG.few k hk) (by omega)) ⟨#[105, 100]⟩ S B (B + 1) v1 (by omega) v2 (by omega)).kept hkL
    rw [lisQ [105, 100]] at hs
    have hk0V : Kept (fun k => k < W0.heap.size) W0 WL := hkV.trans (hkL.mono fun k h => Nat.lt_of_lt_of_le h hkV.size)
    have hkw : Kept (fun k => k < w.heap.size) w WL := hk0.trans (hk0V.mono fun k h => Nat.lt_of_lt_of_le h hk0.size)
    have hseq := within_stops K p M R rk WL (hd.kept hkw) hG hn (havB [105, 100] S.toList) 47 #[.pointer (some ⟨B, 0, none⟩), .pointer (some ⟨B + 1, 0, none⟩)] hs i (3 - 1) C (C + 1) (C + 2) WL (Kept.refl _ _) (fun _ => True) (fun _ _ => False) (mineN _) (fun _ _ => trivial) c0 c1 c2 (by omega) (by omega) (by omega)
    rw [hL] at hseq
    have gL := HBK.out WL hk0V
    have h0 : WL.cell? ⟨N, 0, none⟩ = some (.int .i64 0) ∧ WL.frozen? ⟨N, 0, none⟩ = false ∧ Below N w WL := ⟨by rw [cell_block gL]; rfl, frozen_block gL 0, by rw [← hN]; exact hkw.below⟩
    have HH0 : Hid (WL.cell? ⟨N, 0, none⟩ = some (.int .i64 0) ∧ WL.frozen? ⟨N, 0, none⟩ = false ∧ Below N w WL) := h0
    have hNL : N < WL.heap.size := lt_block gL
    have HNW : Hid (N ≤ w.heap.size) := by rw [hN]; exact (show Hid _ from Nat.le_refl _)
    clear hd hG hn hL hW0 hN hb0 hk0 hz0 hres hz hS hV hkV hzV v1 v2 hB hWL hkL hzL c0 c1 c2 hC hs hk0V hkw gL h0
    refine callsIn_of_wp_marks Try.func11 rfl trivial ?_ rfl
    simp only [Try.ntmps11, List.size_toArray, List.length_cons, List.length_nil, Nat.reduceAdd, Nat.reduceSub, Array.replicate_succ, Array.replicate_zero, List.push_toArray, List.append_toArray, List.nil_append, List.cons_append]
    gi_wp2_with (rw [HW0.out, HNN.out])
    refine ⟨trivial, ?_⟩
    refine (callsIn_wide.2 rn).mono ?_
    rintro e w0 ⟨rfl, hw0⟩
    subst hw0
    clear rn d0 f0 HW0 HBK
    gi_wp2_with fail
    refine ⟨trivial, ?_⟩
    refine (callsIn_wide.2 r0).mono ?_
    rintro e w3 ⟨rfl, hw3⟩
    subst hw3
    clear r0
    gi_wp2
    refine wpIn_rangeFunc_ownG rfl (by omega) (gf := 45) (lb := #[.pointer (some ⟨C, 0, none⟩), .pointer (some ⟨C + 1, 0, none⟩), .pointer (some ⟨C + 2, 0, none⟩)]) rfl trivial (enters_of Try.func45 (by kernel_rfl) rfl)
      hseq kpS_t (kpN_b (Nat.le_refl _)) (Below.refl _ _) (fun _ => rfl)
      (fun pre W => pre = [] ∧ W.cell? ⟨N, 0, none⟩ = some (.int .i64 0) ∧ W.frozen? ⟨N, 0, none⟩ = false ∧ Below N w W)
      (fun c pre W => c = .ret ∧ (∃ x : Nat, pre = [x] ∧ W.cell? ⟨N, 0, none⟩ = some (.int .i64 (x : Int))) ∧ Below N w W)
      (fun s A B row hs hg hr => ⟨hs.1, cell_kept hs.2.1 hg (fun r e => (hr r e).2), (frozen_kept hs.2.1 hg (fun r e => (hr r e).2)).trans hs.2.2.1, hs.2.2.2.grown hg (Nat.le_trans HNW.out hs.2.2.2.size) (fun k e => by have := (hr k e).1; omega)⟩)
      (fun c s A B row hs hg hr => by
        obtain ⟨h1, ⟨x, h2, h5⟩, h6⟩ := hs
        exact ⟨h1, ⟨x, h2, cell_kept h5 hg (fun r e => (hr r e).2)⟩, h6.grown hg (Nat.le_trans HNW.out h6.size) (fun k e => by have := (hr k e).1; omega)⟩)
      ⟨rfl, HH0.out⟩ (fun x => { tmps := #[.pointer (some ⟨p, 0, none⟩), .int .i64 i, .string S, undef, undef, undef, .pointer (some ⟨N, 0, none⟩), .int .i64 (x : Int), .string S, .bool false, .pointer (some ⟨p, 0, none⟩), .int .i64 i, .string S, .func (.func 47) #[] #[.pointer (some ⟨B, 0, none⟩), .pointer (some ⟨B + 1, 0, none⟩)], .func (.func 45) #[] #[.pointer (some ⟨C, 0, none⟩), .pointer (some ⟨C + 1, 0, none⟩), .pointer (some ⟨C + 2, 0, none⟩)], .int .i64 (x : Int), undef], defers := [] }) ?assign ?body ?done ?stop
    case assign =>
      intro l x W K hK
      gi_wp2
      exact hK
    case body =>
      rintro l pre x W ⟨rfl, b2, fz, hbel⟩ _
      have HBW : Hid (Below N w (W.setCell ⟨N, 0, none⟩ (.int .i64 (x : Int)))) := hbel.setCell (p := ⟨N, 0, none⟩) (Nat.le_refl N) _
      clear hbel
      gi_wp2
      exact ⟨(KeepsOthers.setCell _ _ _).from _, rfl, ⟨x, rfl, World.cell?_setCell_same' _ _ _ (by rw [b2]; rfl)⟩, HBW.out⟩
    case done =>
      rintro D ys W hD hys ⟨hp, b2, fz, hbel⟩ hK
      subst hp
      have hB' : z = -1 := by rw [HZ1.out, ← hys]; rfl
      have HBL : Hid (Below N w W) := hbel
      clear hbel
      gi_wp2
      have hK' := (KeepsOthers.setCell W ⟨N, 0, none⟩ (.int .i64 (-1))).same D _ hK rfl
      refine ⟨by simp, .inl ⟨_, _, rfl, run_takeDeferred hK', ?_⟩⟩
      have hc5 := cell_kept (World.cell?_setCell_same' W ⟨N, 0, none⟩ (.int .i64 (-1)) (by rw [b2]; rfl)) (grownBy_putObj' _ D (.deferred none)) (fun r e => by cases e; exact ⟨_, hK', rfl⟩)
      refine ⟨.int .i64 (-1), ?_, by rw [hB'], ?_⟩
      · simp [results, Try.f11, go_sem, hc5]
      · rw [HNN.out]
        exact Below.kept ((HBL.out.setCell (p := ⟨N, 0, none⟩) (Nat.le_refl N) _).trans (belowK_b (w := w3) (by omega) _ D _ _ hD hK' rfl rfl))
    case stop =>
      rintro D c pre W hD hpre ⟨rfl, ⟨x, rfl, h5⟩, h6⟩ hK
      obtain ⟨tl, htl⟩ := hpre
      have hB' : z = (x : Int) := by rw [HZ1.out, ← htl]; rfl
      gi_wp2
      refine ⟨by simp, .inl ⟨_, _, rfl, run_takeDeferred hK, ?_⟩⟩
      have hc5 := cell_kept h5 (grownBy_putObj' _ D (.deferred none)) (fun r e => by cases e; exact ⟨_, hK, rfl⟩)
      refine ⟨.int .i64 (x : Int), ?_, by rw [hB'], ?_⟩
      · simp [results, Try.f11, go_sem, hc5]
      · rw [HNN.out]
        exact Below.kept (h6.trans (belowK_b (w := w3) (by omega) _ D _ _ hD hK rfl rfl))
end Go.Proofs.Ytojbjiopilkbgaa
