/-
  The document's own Node.
-/
import Derived.Test.YtfeinppedejlpaaGreatNW32
namespace Go.Proofs.YtfeinppedejlpaaGreat
set_option maxHeartbeats 8000000
set_option maxRecDepth 100000
open Go.RowKit Go.Sort
set_option linter.unusedVariables false
theorem res121 (tmps : Array Value) (w : World) (g : Nat) (cs : Array Value) (h4 : tmps.getD 4 undef = .pointer (some ⟨g, 0, none⟩)) {u : Value} (h5 : tmps.getD 5 undef = u) (hg : w.heap[g]? = some (.cells cs 58)) (hc : cs.size = 14) :
  (results Tryz.f121 tmps).run Tryz.prog w = .ok (.tuple #[.agg cs, u]) w := by
 rw [results_cell_tmp (p := 4) (u := 5) (ty := 58) Tryz.results121, h4, h5]
 simp only [asAddr, Sem.run_pure, Result.andThen_ok, run_loadVar_row w g 58 58 cs _ _ hg Tryz.underlying58 rfl (by rw [hc]; exact zfz)]
theorem zkr (K : Nat -> Prop) (p : Nat) (M : Dm) (R G : Nat -> List Nat) (i : Int) (w : World) (h : RX K TT w p M R G) (hi : i < 0 \/ (M.n : Int) <= i) :
  Calls Tryz.prog 121 #[.pointer (some ⟨p, 0, none⟩), .int .i64 i] w fun e w' => e = .returned (.tuple #[.agg za2, .int .i64 80]) /\ Kept (fun k => k < w.heap.size) w w' := by
 obtain ⟨W, hW⟩ : ∃ W, w.alloc (.cells za2 58) = W := ⟨_, rfl⟩
 have kW : Kept (fun k => k < w.heap.size) w W := by rw [<- hW]; exact (Kept.refl _ w).alloc (fun _ h => h) _
 have rt := zae K p M R G i W (h.kept kW)
 rw [zbv hi] at rt
 have HW : Hid (w.alloc (.cells za2 58) = W) := hW
 obtain ⟨N, hN⟩ : ∃ N, w.heap.size = N := ⟨_, rfl⟩
 have HN : Hid (w.heap.size = N) := hN
 have hb : W.heap[N]? = some (.cells za2 58 (0, 0)) := by rw [<- hW, <- hN]; exact heap_alloc_new w _
 have HK : Hid (Kept (fun k => k < w.heap.size) w W) := kW
 clear hN hW kW hi h
 go_enter Tryz.func121, Tryz.ntmps121
 go_upto_region 1 with fail
 rw [HW.out, HN.out]
 go_wp2_with (first | (go_at_call 160; refine rt.mono ?_; rintro e w1 ⟨rfl, hw1⟩; replace hw1 := hw1.symm; subst hw1) | (refine wpList_store_row rfl 58 _ _ rfl N za2 rfl rfl 58 za2 hb zfz rfl (by kernel_rfl) ?_))
 exact bodyPost_ret (res121 _ _ N za2 rfl rfl (setRow_heap _ _ _ _ _ _ hb) rfl) rfl ⟨rfl, zaq HK.out (by rw [HN.out]; exact Nat.lt_irrefl _) za2⟩
end Go.Proofs.YtfeinppedejlpaaGreat
