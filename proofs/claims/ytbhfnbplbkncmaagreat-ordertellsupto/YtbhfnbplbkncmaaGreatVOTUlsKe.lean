/-
  order.Tree, order.All: WHAT THEY TELL.
-/
import Derived.Test.YtbhfnbplbkncmaaGreatVOTUlsKd
import Derived.Test.YtbhfnbplbkncmaaGreatVOTUlsPv
namespace Go.Proofs.YtbhfnbplbkncmaaGreat
open Go.RowKit
set_option linter.unusedVariables false
theorem enter82 (args : Array Value) (X : World) : (callFunc 82 args).run Tryz.prog X = .ok (.enter 82 args) X := entersE Tryz.func82 (by kernel_rfl) (c := _) rfl args X
theorem enter83 (args : Array Value) (X : World) : (callFunc 83 args).run Tryz.prog X = .ok (.enter 83 args) X := entersE Tryz.func83 (by kernel_rfl) (c := _) rfl args X
/-- A list that is told: in a row of its own. -/
def Lst (w : World) (l : List Nat) (e : Ending) (w' : World) : Prop := ∃ ao c, e = .returned (.slice ao l.length c) ∧ OwnZ (fun k => k < w.heap.size) w' 3 1 ao l.length c (ivs l) ∧ Kept (fun k => k < w.heap.size) w w'
theorem trI_len {n : Nat} {F : Nat → List Nat} {rk : Nat → Nat} (h : Only n F rk) (i : Int) : (trI n F i).length ≤ n := by
  by_cases c : i < 0 ∨ (n : Int) ≤ i
  · rw [trI_no c]; exact Nat.zero_le _
  · obtain ⟨k, hk, rfl⟩ : ∃ k : Nat, k < n ∧ i = (k : Int) := ⟨i.toNat, by omega, by omega⟩
    rw [trI_in hk]; exact tr_len h hk
set_option maxRecDepth 20000 in
set_option maxHeartbeats 1000000 in
theorem collect_any (K : Nat → Prop) (p : Nat) (M : Dm) (R : Nat → List Nat) (rk : Nat → Nat) (w : World) (hd : DX K w p M) (hG : Good M R rk) (hn : M.n ≤ 100000) (Fw : Nat → List Nat) (hF : Only M.n Fw rk) (hFl : ∀ i, i < M.n → (Fw i).length ≤ 200000) (fo : Nat) (hfo : FoOk fo M R Fw)
    (hen : ∀ (args : Array Value) (X : World), (callFunc fo args).run Tryz.prog X = .ok (.enter fo args) X) (i : Int) (b0 b1 b2 : Nat)
    (c0 : w.cell? ⟨b0, 0, none⟩ = some (.pointer (some ⟨p, 0, none⟩))) (c1 : w.cell? ⟨b1, 0, none⟩ = some (.int .i64 i)) (c2 : w.cell? ⟨b2, 0, none⟩ = some (.func (.func fo) #[] #[])) (l0 : b0 < w.heap.size) (l1 : b1 < w.heap.size) (l2 : b2 < w.heap.size) :
    Calls Tryz.prog 80 #[.func (.func 141) #[] #[.pointer (some ⟨b0, 0, none⟩), .pointer (some ⟨b1, 0, none⟩), .pointer (some ⟨b2, 0, none⟩)]] w (Lst w (trI M.n Fw i)) := by
  have r := appSeq_any K p M R rk w hd hG hn Fw hF.falls hFl fo hfo hen i (Nat.le_trans (trI_len hF i) (by omega)) b0 b1 b2 c0 c1 c2 l0 l1 l2
  clear hd hfo hen c0 c1 c2
  go_enter Tryz.func80, Tryz.ntmps80
  go_wp2_with fail
  refine r.mono ?_
  rintro e w1 ⟨ao, c, rfl, hO, hK⟩
  have HO : Hid (OwnZ (fun k => k < w.heap.size) w1 3 1 ao (trI M.n Fw i).length c (ivs (trI M.n Fw i)) ∧ Kept (fun k => k < w.heap.size) w w1) := ⟨hO, hK⟩
  clear r hO hK
  go_wp2
  go_ret
  exact ⟨ao, c, rfl, HO.out.1, HO.out.2⟩
abbrev fr3 (p fo : Nat) (i : Int) (w : World) : World := ((w.alloc (.cells #[.pointer (some ⟨p, 0, none⟩)] 26)).alloc (.cells #[.int .i64 i] 3)).alloc (.cells #[.func (.func fo) #[] #[]] 152)
theorem fr3_ok (p fo : Nat) (i : Int) (w : World) : Kept (fun k => k < w.heap.size) w (fr3 p fo i w) ∧ (fr3 p fo i w).heap.size = w.heap.size + 3 ∧ (fr3 p fo i w).cell? ⟨w.heap.size, 0, none⟩ = some (.pointer (some ⟨p, 0, none⟩)) ∧ (fr3 p fo i w).cell? ⟨w.heap.size + 1, 0, none⟩ = some (.int .i64 i) ∧ (fr3 p fo i w).cell? ⟨w.heap.size + 2, 0, none⟩ = some (.func (.func fo) #[] #[]) := by
  obtain ⟨A, hA⟩ : ∃ A, w.alloc (.cells #[.pointer (some ⟨p, 0, none⟩)] 26) = A := ⟨_, rfl⟩
  obtain ⟨B, hB⟩ : ∃ B, A.alloc (.cells #[.int .i64 i] 3) = B := ⟨_, rfl⟩
  obtain ⟨C, hC⟩ : ∃ C, B.alloc (.cells #[.func (.func fo) #[] #[]] 152) = C := ⟨_, rfl⟩
  have e : fr3 p fo i w = C := by unfold fr3; rw [hA, hB, hC]
  have sA : A.heap.size = w.heap.size + 1 := by rw [← hA]; simp
  have sB : B.heap.size = w.heap.size + 2 := by rw [← hB]; simp [sA]
  have sC : C.heap.size = w.heap.size + 3 := by rw [← hC]; simp [sB]
  have kA : Kept (fun k => k < w.heap.size) w A := by rw [← hA]; exact (Kept.refl _ w).alloc (fun _ h => h) _
  have kB : Kept (fun k => k < A.heap.size) A B := by rw [← hB]; exact (Kept.refl _ A).alloc (fun _ h => h) _
  have kC : Kept (fun k => k < B.heap.size) B C := by rw [← hC]; exact (Kept.refl _ B).alloc (fun _ h => h) _
  have a0 : A.cell? ⟨w.heap.size, 0, none⟩ = some (.pointer (some ⟨p, 0, none⟩)) := by rw [← hA, cell_block (heap_alloc_new w _)]; rfl
  have b0 : B.cell? ⟨w.heap.size + 1, 0, none⟩ = some (.int .i64 i) := by rw [← hB, ← sA, cell_block (heap_alloc_new A _)]; rfl
  have c0 : C.cell? ⟨w.heap.size + 2, 0, none⟩ = some (.func (.func fo) #[] #[]) := by rw [← hC, ← sB, cell_block (heap_alloc_new B _)]; rfl
  rw [e]
  refine ⟨(kA.trans (kB.mono fun k h => by omega)).trans (kC.mono fun k h => by omega), sC, ?_, ?_, c0⟩
  · exact (kC.cell (p := ⟨w.heap.size, 0, none⟩) (by show w.heap.size < _; omega)).trans ((kB.cell (p := ⟨w.heap.size, 0, none⟩) (by show w.heap.size < _; omega)).trans a0)
  · exact (kC.cell (p := ⟨w.heap.size + 1, 0, none⟩) (by show w.heap.size + 1 < _; omega)).trans b0
set_option maxRecDepth 20000 in
set_option maxHeartbeats 1000000 in
theorem tree_any (K : Nat → Prop) (p : Nat) (M : Dm) (R : Nat → List Nat) (rk : Nat → Nat) (w : World) (hd : DX K w p M) (hG : Good M R rk) (hn : M.n ≤ 100000) (i : Int) :
    Calls Tryz.prog 27 #[.pointer (some ⟨p, 0, none⟩), .int .i64 i] w (Lst w (trI M.n R i)) := by
  obtain ⟨hk, hs, c0, c1, c2⟩ := fr3_ok p 82 i w
  have r0 := from_any p 82 i w
  have r1 := collect_any K p M R rk (fr3 p 82 i w) (hd.kept hk) hG hn R hG.only (fun i hi => by have := hG.wf.len_le hi; omega) 82 (kids_ok M R) enter82 i _ _ _ c0 c1 c2 (by omega) (by omega) (by omega)
  have HK : Hid (Kept (fun k => k < w.heap.size) w (fr3 p 82 i w)) := hk
  clear hk hs c0 c1 c2 hd
  go_enter Tryz.func27, Tryz.ntmps27
  go_wp2_with fail
  refine r0.mono ?_
  rintro e w1 ⟨rfl, rfl⟩
  clear r0
  go_wp2_with fail
  refine r1.mono ?_
  rintro e w2 ⟨ao, c, rfl, hO, hK⟩
  have HO : Hid (OwnZ (fun k => k < w.heap.size) w2 3 1 ao (trI M.n R i).length c (ivs (trI M.n R i)) ∧ Kept (fun k => k < w.heap.size) w w2) := ⟨OwnZ.to hO (fun g hg hh => (hO.out hg).1 (Nat.lt_of_lt_of_le hh HK.out.size)) (fun _ _ => rfl), HK.out.trans (hK.mono fun k h => Nat.lt_of_lt_of_le h HK.out.size)⟩
  clear r1 hO hK
  go_wp2
  go_ret
  exact ⟨ao, c, rfl, HO.out.1, HO.out.2⟩
set_option maxRecDepth 20000 in
set_option maxHeartbeats 1000000 in
theorem all_any (K : Nat → Prop) (p : Nat) (M : Dm) (R G : Nat → List Nat) (rk : Nat → Nat) (w : World) (hd : DX K w p M) (hI : Inv M R G rk) (hn : M.n ≤ 100000) (i : Int) :
    Calls Tryz.prog 28 #[.pointer (some ⟨p, 0, none⟩), .int .i64 i] w (Lst w (trI M.n (fwd M R) i)) := by
  obtain ⟨hk, hs, c0, c1, c2⟩ := fr3_ok p 83 i w
  have r0 := from_any p 83 i w
  have r1 := collect_any K p M R rk (fr3 p 83 i w) (hd.kept hk) hI.good hn (fwd M R) hI.only (fun i hi => by
    have := hI.good.wf.len_le hi
    unfold fwd
    split
    · omega
    · rw [List.length_cons]; omega) 83 (sak_ok hI) enter83 i _ _ _ c0 c1 c2 (by omega) (by omega) (by omega)
  have HK : Hid (Kept (fun k => k < w.heap.size) w (fr3 p 83 i w)) := hk
  clear hk hs c0 c1 c2 hd
  go_enter Tryz.func28, Tryz.ntmps28
  go_wp2_with fail
  refine r0.mono ?_
  rintro e w1 ⟨rfl, rfl⟩
  clear r0
  go_wp2_with fail
  refine r1.mono ?_
  rintro e w2 ⟨ao, c, rfl, hO, hK⟩
  have HO : Hid (OwnZ (fun k => k < w.heap.size) w2 3 1 ao (trI M.n (fwd M R) i).length c (ivs (trI M.n (fwd M R) i)) ∧ Kept (fun k => k < w.heap.size) w w2) := ⟨OwnZ.to hO (fun g hg hh => (hO.out hg).1 (Nat.lt_of_lt_of_le hh HK.out.size)) (fun _ _ => rfl), HK.out.trans (hK.mono fun k h => Nat.lt_of_lt_of_le h HK.out.size)⟩
  clear r1 hO hK
  go_wp2
  go_ret
  exact ⟨ao, c, rfl, HO.out.1, HO.out.2⟩
end Go.Proofs.YtbhfnbplbkncmaaGreat
