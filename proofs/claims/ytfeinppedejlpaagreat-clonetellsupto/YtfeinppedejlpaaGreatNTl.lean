/-
  The document's own Node.
-/
import Derived.Test.YtfeinppedejlpaaGreatNTk
namespace Go.Proofs.YtfeinppedejlpaaGreat
set_option maxHeartbeats 8000000
set_option maxRecDepth 100000
open Go.RowKit Go.Sort
set_option linter.unusedVariables false
theorem zor (K : Nat -> Prop) (p i : Nat) (M : Dm) (R G : Nat -> List Nat) (w : World) (h : RX K TT w p M R G) (hi : i < M.n) (hn : M.n <= 1000000) (hla : (M.nd i).attrs.length <= 1000000) (hlr : (R i).length <= 1000000) :
  Calls Tryz.prog 121 #[.pointer (some ⟨p, 0, none⟩), .int .i64 (i : Int)] w fun e w' => ∃ aa ac ka kc, e = .returned (.tuple #[.agg (za1 M R i aa ac ka kc).toArray, .int .i64 0]) /\ Zag (fun k => w.heap.size <= k /\ k < w'.heap.size) w' aa (M.nd i).attrs /\ (M.nd i).attrs.length <= ac /\ Zan (fun k => w.heap.size <= k /\ k < w'.heap.size) w' ka (R i) /\ (R i).length <= kc /\ Kept (fun k => k < w.heap.size) w w' := by
 obtain ⟨W, hW⟩ : ∃ W, w.alloc (.cells za2 58) = W := ⟨_, rfl⟩
 have kW : Kept (fun k => k < w.heap.size) w W := by rw [<- hW]; exact (Kept.refl _ w).alloc (fun _ h => h) _
 have hX := h.kept kW
 have rt := zae K p M R G (i : Int) W hX
 rw [zal hi] at rt
 have HW : Hid (w.alloc (.cells za2 58) = W) := hW
 obtain ⟨N, hN⟩ : ∃ N, w.heap.size = N := ⟨_, rfl⟩
 have HN : Hid (w.heap.size = N) := hN
 have hb : W.heap[N]? = some (.cells za2 58 (0, 0)) := by rw [<- hW, <- hN]; exact heap_alloc_new w _
 have HK : Hid (Kept (fun k => k < w.heap.size) w W) := kW
 obtain ⟨A, hY⟩ := hX
 obtain ⟨g, hg, -, -, hgl⟩ := hY.nat (by omega)
 have c1 := hY.c1
 rw [hg] at c1
 have d := fun f u hf => hY.cell hg hi f u hf
 have d0 : W.cell? ⟨g, i * 14, none⟩ = _ := d 0 _ rfl
 have d1 := d 1 _ rfl
 have d2 := d 2 _ rfl
 have d3 := d 3 _ rfl
 have d4 := d 4 _ rfl
 have d5 := d 5 _ rfl
 have d6 := d 6 _ rfl
 have d7 := d 7 _ rfl
 have d8 := d 8 _ rfl
 have d9 := d 9 _ rfl
 have d10 := d 10 _ rfl
 have d11 := d 11 _ rfl
 have d12 := d 12 _ rfl
 have d13 := d 13 _ rfl
 have hat : Zag (fun k => k < W.heap.size) W (A.aa i) (M.nd i).attrs := (hY.ats i hi).to (fun _ h => h.1) (fun _ _ => rfl)
 have hki : Zan (fun k => k < W.heap.size) W (A.ka i) (R i) := (hY.kid i hi).to (fun _ h => h.1) (fun _ _ => rfl)
 obtain ⟨cs, hcs⟩ : ∃ cs : Array Value, #[.int .u8 ((M.nd i).kind : Int), .string ⟨(M.nd i).name.toArray⟩, .string ⟨(M.nd i).data.toArray⟩, .slice (A.aa i) (M.nd i).attrs.length (A.ac i), .int .i64 (M.pl i).up, .slice (A.ka i) (R i).length (A.kc i), .int .i64 (M.nd i).shadow, .int .i64 (M.nd i).host, .int .i64 (M.nd i).content, .bool (M.nd i).fl.a, .bool (M.nd i).fl.b, .bool (M.nd i).fl.c, .bool (M.nd i).fl.d, .bool (M.nd i).fl.e] = cs := ⟨_, rfl⟩
 obtain ⟨V, hV⟩ : ∃ V, W.alloc (.cells cs 58) = V := ⟨_, rfl⟩
 obtain ⟨N2, hN2⟩ : ∃ N2, W.heap.size = N2 := ⟨_, rfl⟩
 have kV : Kept (fun k => k < W.heap.size) W V := by rw [<- hV]; exact (Kept.refl _ W).alloc (fun _ h => h) _
 have hbV : V.heap[N2]? = some (.cells cs 58 (0, 0)) := by rw [<- hV, <- hN2]; exact heap_alloc_new W _
 have ra := zde (M.nd i).attrs (A.aa i) (M.nd i).attrs.length (A.ac i) rfl (by omega) V (hat.kept kV fun k h => ltl h kV.size)
 have HV : Hid (W.alloc (.cells #[.int .u8 ((M.nd i).kind : Int), .string ⟨(M.nd i).name.toArray⟩, .string ⟨(M.nd i).data.toArray⟩, .slice (A.aa i) (M.nd i).attrs.length (A.ac i), .int .i64 (M.pl i).up, .slice (A.ka i) (R i).length (A.kc i), .int .i64 (M.nd i).shadow, .int .i64 (M.nd i).host, .int .i64 (M.nd i).content, .bool (M.nd i).fl.a, .bool (M.nd i).fl.b, .bool (M.nd i).fl.c, .bool (M.nd i).fl.d, .bool (M.nd i).fl.e] 58) = V) := by rw [hcs]; exact hV
 have HN2 : Hid (W.heap.size = N2) := hN2
 have HCS : Hid (_ = cs) := hcs
 clear hN hW kW d hV hN2 hcs
 go_enter Tryz.func121, Tryz.ntmps121
 go_upto_region 1 with fail
 rw [HW.out, HN.out]
 go_upto_region 3 with (go_at_call 160; refine rt.mono ?_; rintro e w1 ⟨rfl, hw1⟩; replace hw1 := hw1.symm; subst hw1)
 go_wp2_with fail
 rw [HV.out, HN2.out]
 refine ra.mono ?_
 rintro e w3 ⟨ao, c, rfl, hO, hk3⟩
 have hb3 : w3.heap[N2]? = some (.cells cs 58 (0, 0)) := (hk3.block N2 (zad hbV)).trans hbV
 obtain ⟨X4, hX4⟩ : ∃ X4, w3.setCell ⟨N2, 3, none⟩ (.slice ao (M.nd i).attrs.length c) = X4 := ⟨_, rfl⟩
 have hb4 : X4.heap[N2]? = some (.cells (cs.setIfInBounds 3 (.slice ao (M.nd i).attrs.length c)) 58 (0, 0)) := by rw [<- hX4]; exact zai hb3 _ _
 have k4 : Kept (fun k => k < W.heap.size) W X4 := by
  rw [<- hX4]
  exact (kt kV hk3).setCell (p := ⟨N2, 3, none⟩) (by rw [HN2.out]; exact Nat.lt_irrefl _) _
 have kV4 : Kept (fun k => k < V.heap.size /\ k ≠ N2) V X4 := by
  rw [<- hX4]
  exact (hk3.mono fun k h => h.1).setCell (p := ⟨N2, 3, none⟩) (fun h => h.2 rfl) _
 have ri := zef (R i) (A.ka i) (R i).length (A.kc i) rfl (by omega) X4 (hki.to (fun k h => ltl h k4.size) (fun k h => k4.block k h))
 have f3 : w3.cell? ⟨N2, 3, none⟩ = some (.slice (A.aa i) (M.nd i).attrs.length (A.ac i)) := by rw [zaa hb3, <- HCS.out]; rfl
 have f3z := zao hb3 3
 have f5 : X4.cell? ⟨N2, 5, none⟩ = some (.slice (A.ka i) (R i).length (A.kc i)) := by rw [zaa hb4, <- HCS.out]; rfl
 have HX4 : Hid (w3.setCell ⟨N2, 3, none⟩ (.slice ao (M.nd i).attrs.length c) = X4) := hX4
 clear hX4 ra rt
 go_upto_region 5 with fail
 rw [HX4.out]
 go_wp2_with fail
 refine ri.mono ?_
 rintro e w5 ⟨ko, kc', rfl, hO5, hk5⟩
 have hb5 : w5.heap[N2]? = some (.cells (cs.setIfInBounds 3 (.slice ao (M.nd i).attrs.length c)) 58 (0, 0)) := (hk5.block N2 (zad hb4)).trans hb4
 obtain ⟨X6, hX6⟩ : ∃ X6, w5.setCell ⟨N2, 5, none⟩ (.slice ko (R i).length kc') = X6 := ⟨_, rfl⟩
 obtain ⟨cs6, hcs6⟩ : ∃ cs6, (za1 M R i ao c ko kc').toArray = cs6 := ⟨_, rfl⟩
 have hb6 : X6.heap[N2]? = some (.cells cs6 58 (0, 0)) := by
  rw [<- hX6, <- hcs6]
  have := zai hb5 5 (.slice ko (R i).length kc')
  rw [this, <- HCS.out]
  rfl
 have f5w : w5.cell? ⟨N2, 5, none⟩ = some (.slice (A.ka i) (R i).length (A.kc i)) := by rw [zaa hb5, <- HCS.out]; rfl
 have f5z := zao hb5 5
 have hNN : N < W.heap.size := zad hb
 have k6 : Kept (fun k => k < W.heap.size) W X6 := by
  rw [<- hX6]
  exact (kt k4 hk5).setCell (p := ⟨N2, 5, none⟩) (by rw [HN2.out]; exact Nat.lt_irrefl _) _
 have hbN : X6.heap[N]? = some (.cells za2 58 (0, 0)) := (k6.block N hNN).trans hb
 have HX6 : Hid (w5.setCell ⟨N2, 5, none⟩ (.slice ko (R i).length kc') = X6) := hX6
 have hc6 : cs6.size = 14 := by rw [<- hcs6]; rfl
 have hone : cs6.all (·.oneCell') = true := by
  rw [<- hcs6, List.all_toArray, List.all_eq_true]
  exact fun u hu => zln _ _ _ _ _ _ _ u hu
 have HF : Hid (Kept (fun k => k < w.heap.size) w (X6.setRow N cs6)) := zaq (kt HK.out k6) (by rw [HN.out]; exact Nat.lt_irrefl _) cs6
 have hN2V : N2 < V.heap.size := zad hbV
 have hNV : N < V.heap.size := ltl hNN kV.size
 have hWw : w.heap.size <= V.heap.size := Nat.le_trans HK.out.size kV.size
 have HAT : Hid (Zag (fun k => w.heap.size <= k /\ k < (X6.setRow N cs6).heap.size) (X6.setRow N cs6) ao (M.nd i).attrs) := by
  have k34 : Kept (fun k => V.heap.size <= k /\ k < w3.heap.size) w3 X4 := by
   rw [<- HX4.out]
   exact (Kept.refl _ w3).setCell (p := ⟨N2, 3, none⟩) (fun h => Nat.lt_irrefl _ (ltl hN2V h.1)) _
  have k35 := k34.trans (hk5.mono fun k h => ltl h.2 k34.size)
  have k36 : Kept (fun k => V.heap.size <= k /\ k < w3.heap.size) w3 X6 := by
   rw [<- hX6]
   exact k35.setCell (p := ⟨N2, 5, none⟩) (fun h => Nat.lt_irrefl _ (ltl hN2V h.1)) _
  have k37 := zaq k36 (g := N) (fun h => Nat.lt_irrefl _ (ltl hNV h.1)) cs6
  exact (hO.atsAt (K' := fun k => V.heap.size <= k /\ k < w3.heap.size) fun x hx => ⟨Nat.le_of_not_lt (Zac.out hO hx).1, (Zac.out hO hx).2⟩).kept k37 fun k h => ⟨Nat.le_trans hWw h.1, ltl h.2 k37.size⟩
 have HIT : Hid (Zan (fun k => w.heap.size <= k /\ k < (X6.setRow N cs6).heap.size) (X6.setRow N cs6) ko (R i)) := by
  have hN24 : N2 < X4.heap.size := zad hb4
  have hN4 : N < X4.heap.size := ltl hNN k4.size
  have hw4 : w.heap.size <= X4.heap.size := Nat.le_trans HK.out.size k4.size
  have k56 : Kept (fun k => X4.heap.size <= k /\ k < w5.heap.size) w5 X6 := by
   rw [<- hX6]
   exact (Kept.refl _ w5).setCell (p := ⟨N2, 5, none⟩) (fun h => Nat.lt_irrefl _ (ltl hN24 h.1)) _
  have k57 := zaq k56 (g := N) (fun h => Nat.lt_irrefl _ (ltl hN4 h.1)) cs6
  exact (hO5.intsAt (F := fun k => X4.heap.size <= k /\ k < w5.heap.size) fun x hx => ⟨Nat.le_of_not_lt (Zac.out hO5 hx).1, (Zac.out hO5 hx).2⟩).to (fun k h => ⟨Nat.le_trans hw4 h.1, ltl h.2 k57.size⟩) (fun k h => k57.block k h)
 clear hX6 ri f3 f3z f5
 go_upto_region 6 with fail
 rw [HX6.out]
 go_wp2_with (first | (refine wpList_load_row rfl 58 _ rfl N2 rfl 58 cs6 (0, 0) _ hb6 Tryz.underlying58 rfl (by rw [hc6]; exact zfz) ?_) | (refine wpList_store_row rfl 58 _ _ rfl N cs6 rfl rfl 58 za2 hbN (by rw [hc6]; exact zfz) (by rw [hc6]; rfl) hone ?_))
 refine bodyPost_ret (res121 _ _ N cs6 rfl rfl (setRow_heap _ _ _ _ _ _ hbN) hc6) rfl ⟨ao, c, ko, kc', ?_, ?_, hO.2.1, ?_, hO5.2.1, HF.out⟩
 ·rw [hcs6]; rfl
 ·exact HAT.out
 ·exact HIT.out
end Go.Proofs.YtfeinppedejlpaaGreat
