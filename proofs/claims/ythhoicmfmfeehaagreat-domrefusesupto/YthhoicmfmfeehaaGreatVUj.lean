/-
  DomRefuses of what is not looked at.
-/
import Derived.Test.YthhoicmfmfeehaaGreatVUi
namespace Go.Proofs.YthhoicmfmfeehaaGreat
open Go.RowKit Go.Sort
set_option linter.unusedVariables false
set_option maxRecDepth 20000 in
set_option maxHeartbeats 8000000 in
theorem refuses_heavy2 (l : List Opx) (n : Nat) (hln : l.length = n) (hnn : n ≤ 40) (a : Option Addr) (c : Nat) (hok : ∀ o ∈ l, OpOk o) (hb : opsH l ≤ 5000) (w : World) (h : OpsAt (fun k => k < w.heap.size) w a l)
    (o : Opx) (A : OpA) (hoo : OpOk o) (hbo : 2000 < opH o) (hbo2 : opH o ≤ 1900000) (hA : OpAt (fun k => k < w.heap.size) w A o) :
    Calls Tryz.prog 5 #[.slice a n c, opV o A] w fun e w' => e = .returned (.bool true) ∧ Kept (fun k => k < w.heap.size) w w' := by
  obtain ⟨N, hN⟩ : ∃ N, w.heap.size = N := ⟨_, rfl⟩
  obtain ⟨cs, hcs⟩ : ∃ cs, (opC o A).toArray = cs := ⟨_, rfl⟩
  have hsz : cs.size = 17 := by rw [← hcs]; rfl
  obtain ⟨W, hW⟩ : ∃ W, w.alloc (.cells cs 37) = W := ⟨_, rfl⟩
  have kW : Kept (fun k => k < w.heap.size) w W := by rw [← hW]; exact (Kept.refl _ w).alloc (fun _ h => h) _
  have hbW : W.heap[N]? = some (.cells cs 37 (0, 0)) := by rw [← hW, ← hN]; exact heap_alloc_new w _
  have rh := heavy_any l n hln (by omega) a c (by omega) W (h.kept kW fun g hg => Nat.lt_of_lt_of_le hg kW.size)
  have hg40 : decide ((n : Int) > 40) = false := decide_eq_false (by omega)
  obtain ⟨hv, hhv⟩ : ∃ hv, opsH l = hv := ⟨_, rfl⟩
  rw [hhv] at rh
  have hg5 : decide ((hv : Int) > 5000) = false := decide_eq_false (by omega)
  obtain ⟨ov, hov⟩ : ∃ ov, opH o = ov := ⟨_, rfl⟩
  have hg2 : decide ((ov : Int) > 2000) = true := decide_eq_true (by omega)
  have RH1 : Hid (∀ X, Kept (fun k => k < w.heap.size) w X → Calls Tryz.prog 9 #[.slice (some ⟨X.heap.size, 0, none⟩) 1 1] (X.alloc (.cells cs 37)) fun e w' => e = .returned (.int .i64 (ov : Int)) ∧ Kept (fun k => k < (X.alloc (.cells cs 37)).heap.size) (X.alloc (.cells cs 37)) w') := fun X hX => by
    have := heavy_any [o] 1 rfl (by omega) (some ⟨X.heap.size, 0, none⟩) 1 (by simp only [opsH]; omega) (X.alloc (.cells (opC o A).toArray 37)) (ops_one (hA.kept hX fun g hg => Nat.lt_of_lt_of_le hg hX.size))
    rw [hcs] at this
    simp only [opsH, Nat.add_zero, hov] at this
    exact this
  have HW : Hid (w.alloc (.cells cs 37) = W) := hW
  have HN : Hid (w.heap.size = N) := hN
  have HBW : Hid (W.heap[N]? = some (.cells cs 37 (0, 0))) := hbW
  have HKW : Hid (Kept (fun k => k < w.heap.size) w W) := kW
  have HA : Hid (OpAt (fun k => k < w.heap.size) w A o) := hA
  have HCS : Hid ((opC o A).toArray = cs) := hcs
  have hvv : opV o A = .agg cs := by rw [← hcs]
  rw [hvv]
  clear hvv hW hN hbW kW hln hok hb h hhv hov hoo hbo hbo2 hA hcs
  go_enter Tryz.func5, Tryz.ntmps5
  go_upto_region 1 with fail
  rw [HW.out, HN.out]
  clear HW
  go_wp2_with fail
  refine rh.mono ?_
  rintro e w1 ⟨rfl, k1⟩
  have k01 : Kept (fun k => k < w.heap.size) w w1 := HKW.out.trans (k1.mono fun k h => Nat.lt_of_lt_of_le h HKW.out.size)
  have hb1 : w1.heap[N]? = some (.cells cs 37 (0, 0)) := (k1.block N (lt_block HBW.out)).trans HBW.out
  have rh1 := RH1.out w1 k01
  have HK01 : Hid (Kept (fun k => k < w.heap.size) w w1) := k01
  have HB1 : Hid (w1.heap[N]? = some (.cells cs 37 (0, 0))) := hb1
  have cell : ∀ f u, (opC o A)[f]? = some u → w1.cell? ⟨N, f, none⟩ = some u := fun f u hu => by rw [cell_block hb1, ← HCS.out, ← hu, ← Array.getElem?_toList]
  have e0 := cell 0 _ rfl
  have e1 := cell 1 _ rfl
  have e2 := cell 2 _ rfl
  have e3 := cell 3 _ rfl
  have e4 := cell 4 _ rfl
  have e5 := cell 5 _ rfl
  have e6 := cell 6 _ rfl
  have e7 := cell 7 _ rfl
  have e8 := cell 8 _ rfl
  have e9 := cell 9 _ rfl
  have e10 := cell 10 _ rfl
  have e11 := cell 11 _ rfl
  have e12 := cell 12 _ rfl
  have e13 := cell 13 _ rfl
  have e14 := cell 14 _ rfl
  have e15 := cell 15 _ rfl
  have e16 := cell 16 _ rfl
  rw [← HCS.out] at rh1
  have HRH1 : Hid (Calls Tryz.prog 9 #[.slice (some ⟨w1.heap.size, 0, none⟩) 1 1] (w1.alloc (.cells (opC o A).toArray 37)) fun e w' => e = .returned (.int .i64 (ov : Int)) ∧ Kept (fun k => k < (w1.alloc (.cells (opC o A).toArray 37)).heap.size) (w1.alloc (.cells (opC o A).toArray 37)) w') := rh1
  clear rh k1 k01 RH1 cell hb1 rh1
  go_wp2_with fail
  refine HRH1.out.mono ?_
  rintro e w2 ⟨rfl, k2⟩
  have k12 : Kept (fun k => k < w1.heap.size) w1 w2 := ((Kept.refl _ w1).alloc (fun _ h => h) _).trans (k2.mono fun k h => by simp; omega)
  have rk0 := known_any w2
  have HK12 : Hid (Kept (fun k => k < w1.heap.size) w1 w2) := k12
  clear HRH1 k2 k12 e0 e1 e2 e3 e4 e5 e6 e7 e8 e9 e10 e11 e12 e13 e14 e15 e16
  go_wp2_with (go_at_call 10; refine rk0.mono ?_; rintro e w3 ⟨rfl, k3⟩)
  go_ret
  exact ⟨rfl, (HK01.out.trans (HK12.out.mono fun k h => Nat.lt_of_lt_of_le h HK01.out.size)).trans (k3.mono fun k h => Nat.lt_of_lt_of_le (Nat.lt_of_lt_of_le h HK01.out.size) HK12.out.size)⟩
set_option maxRecDepth 20000 in
theorem refuses_long (n : Nat) (hnn : 40 < n) (a : Option Addr) (c : Nat) (cs : Array Value) (hsz : cs.size = 17) (w : World) :
    Calls Tryz.prog 5 #[.slice a n c, .agg cs] w fun e w' => e = .returned (.bool true) ∧ Kept (fun k => k < w.heap.size) w w' := by
  have hg : decide ((n : Int) > 40) = true := decide_eq_true (by omega)
  have kW : ∀ o, Kept (fun k => k < w.heap.size) w (w.alloc o) := fun o => (Kept.refl _ w).alloc (fun _ h => h) o
  have rk0 := fun o => known_any (w.alloc o)
  have HKW : Hid (∀ o, Kept (fun k => k < w.heap.size) w (w.alloc o)) := kW
  clear kW
  go_enter Tryz.func5, Tryz.ntmps5
  go_wp2_with (go_at_call 10; refine (rk0 _).mono ?_; rintro e w2 ⟨rfl, k2⟩)
  go_ret
  exact ⟨rfl, (HKW.out _).trans (k2.mono fun k h => Nat.lt_of_lt_of_le h (HKW.out _).size)⟩
set_option maxRecDepth 20000 in
theorem refuses_heavy (l : List Opx) (n : Nat) (hln : l.length = n) (hnn : n ≤ 40) (a : Option Addr) (c : Nat) (hb : 5000 < opsH l) (hb2 : opsH l ≤ 2000000) (cs : Array Value) (hsz : cs.size = 17) (w : World) (h : OpsAt (fun k => k < w.heap.size) w a l) :
    Calls Tryz.prog 5 #[.slice a n c, .agg cs] w fun e w' => e = .returned (.bool true) ∧ Kept (fun k => k < w.heap.size) w w' := by
  obtain ⟨W, hW⟩ : ∃ W, w.alloc (.cells cs 37) = W := ⟨_, rfl⟩
  have kW : Kept (fun k => k < w.heap.size) w W := by rw [← hW]; exact (Kept.refl _ w).alloc (fun _ h => h) _
  have rh := heavy_any l n hln (by omega) a c hb2 W (h.kept kW fun g hg => Nat.lt_of_lt_of_le hg kW.size)
  have hg40 : decide ((n : Int) > 40) = false := decide_eq_false (by omega)
  obtain ⟨hv, hhv⟩ : ∃ hv, opsH l = hv := ⟨_, rfl⟩
  rw [hhv] at rh hb
  have hg5 : decide ((hv : Int) > 5000) = true := decide_eq_true (by omega)
  have HW : Hid (w.alloc (.cells cs 37) = W) := hW
  have HKW : Hid (Kept (fun k => k < w.heap.size) w W) := kW
  clear hW kW hln hb hb2 h hhv
  go_enter Tryz.func5, Tryz.ntmps5
  go_upto_region 1 with fail
  rw [HW.out]
  go_wp2_with fail
  refine rh.mono ?_
  rintro e w1 ⟨rfl, k1⟩
  have rk0 := known_any w1
  have HK01 : Hid (Kept (fun k => k < w.heap.size) w w1) := HKW.out.trans (k1.mono fun k h => Nat.lt_of_lt_of_le h HKW.out.size)
  clear rh k1
  go_wp2_with (go_at_call 10; refine rk0.mono ?_; rintro e w2 ⟨rfl, k2⟩)
  go_ret
  exact ⟨rfl, HK01.out.trans (k2.mono fun k h => Nat.lt_of_lt_of_le h HK01.out.size)⟩
end Go.Proofs.YthhoicmfmfeehaaGreat
