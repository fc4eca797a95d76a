/-
  The program's order.Root of a node, shadow.Of.
-/
import Derived.Test.YtfeinppedejlpaaGreatKW28
import Derived.Test.YtfeinppedejlpaaGreatKB19
import Derived.Test.YtfeinppedejlpaaGreatKB16
import Derived.BigQuiet
namespace Go.Proofs.YtfeinppedejlpaaGreat
set_option linter.unusedVariables false
set_option maxRecDepth 100000
set_option maxHeartbeats 8000000
section
open Go.RowKit Go.Sort
theorem zoj (K : Nat -> Prop) (p i : Nat) (M : Dm) (R : Nat -> List Nat) (rk : Nat -> Nat) (w : World) (h : DX K w p M) (hG : Good M R rk) (hi : i < M.n) (hn : M.n <= 1000000) :
  Calls Tryz.prog 226 #[.pointer (some ⟨p, 0, none⟩), .int .i64 (i : Int)] w fun e w' => ∃ t, t < M.n /\ Zbv M i t /\ e = .returned (.int .i64 (t : Int)) /\ Kept (fun k => k < w.heap.size) w w' := by
 have rn := fun (j : Nat) (hj : j < M.n) (X : World) (hk : Kept (fun k => k < w.heap.size) w X) => zc3 K p j M R X (h.kept hk) hG.wf hj hn hG.few
 have r1 := rn i hi w (Kept.refl _ _)
 have HG : Hid (Good M R rk) := hG
 have HRN : Hid (∀ (j : Nat) (hj : j < M.n) (X : World) (hk : Kept (fun k => k < w.heap.size) w X), Calls Tryz.prog 41 #[.pointer (some ⟨p, 0, none⟩), .int .i64 (j : Int)] X fun e w' => Told X (M.nd j) (M.pl j).up (R j) e w') := rn
 clear rn h hG
 go_enter Tryz.func226, Tryz.ntmps226
 go_wp2_with fail
 refine r1.mono ?_
 rintro e v1 ⟨ao1, ac1, ko1, kc1, rfl, -, -, hK1⟩
 obtain ⟨cs, hcs⟩ : ∃ cs : Array Value, zku (M.nd i).kind ⟨(M.nd i).name.toArray⟩ ⟨(M.nd i).data.toArray⟩ ao1 (M.nd i).attrs.length ac1 (M.pl i).up ko1 (R i).length kc1 (M.nd i).shadow (M.nd i).host (M.nd i).content (M.nd i).fl = cs := ⟨_, rfl⟩
 obtain ⟨N, hN⟩ : ∃ N, v1.heap.size = N := ⟨_, rfl⟩
 obtain ⟨V, hV⟩ : ∃ V, v1.alloc (.cells (zku (M.nd i).kind ⟨(M.nd i).name.toArray⟩ ⟨(M.nd i).data.toArray⟩ ao1 (M.nd i).attrs.length ac1 (M.pl i).up ko1 (R i).length kc1 (M.nd i).shadow (M.nd i).host (M.nd i).content (M.nd i).fl) 58) = V := ⟨_, rfl⟩
 have kV : Kept (fun k => k < v1.heap.size) v1 V := by rw [<- hV]; exact (Kept.refl _ v1).alloc (fun _ h => h) _
 have HKV : Hid (Kept (fun k => k < w.heap.size) w V) := kt hK1 kV
 have HNw : Hid (w.heap.size <= N) := by rw [<- hN]; exact hK1.size
 have hb : V.heap[N]? = some (.cells cs 58 (0, 0)) := by rw [<- hV, <- hN, <- hcs]; exact heap_alloc_new v1 _
 have HB : Hid (V.heap[N]? = some (.cells cs 58 (0, 0)) /\ cs.size = 14 /\ cs[4]? = some (.int .i64 (M.pl i).up)) := ⟨hb, by rw [<- hcs]; rfl, by rw [<- hcs]; rfl⟩
 have HV : Hid (v1.alloc (.cells (zku (M.nd i).kind ⟨(M.nd i).name.toArray⟩ ⟨(M.nd i).data.toArray⟩ ao1 (M.nd i).attrs.length ac1 (M.pl i).up ko1 (R i).length kc1 (M.nd i).shadow (M.nd i).host (M.nd i).content (M.nd i).fl) 58) = V) := hV
 have HN : Hid (v1.heap.size = N) := hN
 clear hcs hN hV kV hK1 hb r1
 go_upto_region 4 with fail
 rw [HV.out, HN.out]
 clear HV HN
 go_loopg [1] (rk i) (fun gh v wr => ∃ (j : Nat) (cs : Array Value), gh = rk j /\ v = .int .i64 (j : Int) /\ j < M.n /\ (∀ t, Zbv M j t -> Zbv M i t) /\ wr.heap[N]? = some (.cells cs 58 (0, 0)) /\ cs.size = 14 /\ cs[4]? = some (.int .i64 (M.pl j).up) /\ Kept (fun k => k < w.heap.size) w wr)
 case atStart => exact ⟨i, cs, rfl, rfl, hi, fun _ h => h, HB.out.1, HB.out.2.1, HB.out.2.2, HKV.out⟩
 case round =>
  clear HB HKV
  obtain ⟨j, cs, hgj, rfl, hj, hT, hb, hs, h4, hK⟩ := hrel
  have c4 : wr.cell? ⟨N, 4, none⟩ = some (.int .i64 (M.pl j).up) := by rw [zaa hb]; exact h4
  have HT : Hid (∀ t, Zbv M j t -> Zbv M i t) := hT
  have HB : Hid (wr.heap[N]? = some (.cells cs 58 (0, 0)) /\ cs.size = 14) := ⟨hb, hs⟩
  have HK : Hid (Kept (fun k => k < w.heap.size) w wr) := hK
  rcases HG.out.wf.inn j hj with h0 | ⟨u, hu, hup, -⟩
  ·rw [h0] at c4
   have H0 : Hid ((M.pl j).up = -1) := h0
   clear hT hb hs h4 hK h0
   go_wp2
   go_ret
   exact ⟨j, hj, HT.out j (.here H0.out), rfl, HK.out⟩
  ·have HUP : Hid ((M.pl j).up = (u : Int)) := hup
   have e1 : ((u : Int) == -1) = false := by simp
   have r2 := HRN.out u hu wr hK
   have hrk : rk u < rk j := by
    rcases HG.out.acy j hj with h1 | ⟨m, _, h2, h3⟩
    ·unfold zbz at h1; rw [if_neg (by omega)] at h1; omega
    ·unfold zbz at h2
     rw [if_neg (by omega), hup] at h2
     injection h2 with h2
     subst h2
     exact h3
   rw [hup] at c4
   clear hT hb hs h4 hK hup
   go_upto_region 6 with fail
   go_wp2_with fail
   refine r2.mono ?_
   rintro e v2 ⟨ao2, ac2, ko2, kc2, rfl, -, -, hK2⟩
   obtain ⟨cs2, hcs2⟩ : ∃ cs2 : Array Value, zku (M.nd u).kind ⟨(M.nd u).name.toArray⟩ ⟨(M.nd u).data.toArray⟩ ao2 (M.nd u).attrs.length ac2 (M.pl u).up ko2 (R u).length kc2 (M.nd u).shadow (M.nd u).host (M.nd u).content (M.nd u).fl = cs2 := ⟨_, rfl⟩
   have hone : cs2.all (·.oneCell') = true := by rw [<- hcs2]; exact zh0 _ _ _ _ _ _ _ _ _ _ _ _ _ _
   have hs2 : cs2.size = 14 := by rw [<- hcs2]; rfl
   have h42 : cs2[4]? = some (.int .i64 (M.pl u).up) := by rw [<- hcs2]; rfl
   have hb2 : v2.heap[N]? = some (.cells cs 58 (0, 0)) := by rw [hK2.block N (zai HB.out.1)]; exact HB.out.1
   have hI : (Tryz.prog.info? 58).map (·.size) = some cs2.size := by rw [hs2]; exact zg0
   have hold : cs.size = cs2.size := by rw [hs2]; exact HB.out.2
   have HB2 : Hid ((v2.setRow N cs2).heap[N]? = some (.cells cs2 58 (0, 0)) /\ cs2.size = 14 /\ cs2[4]? = some (.int .i64 (M.pl u).up)) := ⟨setRow_heap _ _ _ _ _ _ hb2, hs2, h42⟩
   have HK2 : Hid (Kept (fun k => k < w.heap.size) w (v2.setRow N cs2)) := zap (kt HK.out hK2) (by have := HNw.out; omega) cs2
   rw [hcs2]
   clear hcs2 hs2 h42 hK2 r2 c4
   go_wp2_with (refine wpList_store_row rfl 58 _ _ rfl N cs2 rfl rfl 58 cs hb2 hI hold hone ?_)
   go_roundg (rk u)
   case rel => exact ⟨u, cs2, rfl, rfl, hu, fun t ht => HT.out t (.up HUP.out ht), HB2.out.1, HB2.out.2.1, HB2.out.2.2, HK2.out⟩
   case measure => omega
theorem zm9 (K : Nat -> Prop) (p : Nat) (i : Int) (M : Dm) (w : World) (h : DX K w p M) (hi : i < 0 \/ (M.n : Int) <= i) (hn : M.n <= 1000000) :
  Calls Tryz.prog 226 #[.pointer (some ⟨p, 0, none⟩), .int .i64 i] w fun e w' => e = .returned (.int .i64 (-1)) /\ Kept (fun k => k < w.heap.size) w w' := by
 have r1 := ze1 K p M i w h hi hn
 clear h hi
 go_enter Tryz.func226, Tryz.ntmps226
 go_wp2_with fail
 refine r1.mono ?_
 rintro e v1 ⟨rfl, hK1⟩
 have HK : Hid (∀ o, Kept (fun k => k < w.heap.size) w (v1.alloc o)) := fun o => hK1.alloc (fun k h => ltl h hK1.size) o
 clear r1 hK1
 go_wp2
 go_ret
 exact ⟨rfl, HK.out _⟩
theorem zuj (K : Nat -> Prop) (p i : Nat) (M : Dm) (R : Nat -> List Nat) (rk : Nat -> Nat) (w : World) (h : DX K w p M) (hG : Good M R rk) (hi : i < M.n) (hn : M.n <= 1000000) :
  Calls Tryz.prog 152 #[.pointer (some ⟨p, 0, none⟩), .int .i64 (i : Int)] w fun e w' => ∃ z : Int, Znb M i z /\ e = .returned (.int .i64 z) /\ Kept (fun k => k < w.heap.size) w w' := by
 have r1 := zoj K p i M R rk w h hG hi hn
 have HG : Hid (Good M R rk) := hG
 have HX : Hid (DX K w p M) := h
 clear h hG
 go_enter Tryz.func152, Tryz.ntmps152
 go_wp2_with fail
 refine r1.mono ?_
 rintro e w1 ⟨t, ht, hT, rfl, hK1⟩
 have r2 := zc3 K p t M R w1 (HX.out.kept hK1) HG.out.wf ht hn HG.out.few
 have HT : Hid (Zbv M i t) := hT
 have HK1 : Hid (Kept (fun k => k < w.heap.size) w w1) := hK1
 clear r1 hT hK1
 go_upto_region 2 with fail
 go_wp2_with fail
 refine r2.mono ?_
 rintro e v1 ⟨ao1, ac1, ko1, kc1, rfl, -, -, hK2⟩
 have HK2 : Hid (∀ o, Kept (fun k => k < w.heap.size) w (v1.alloc o)) := fun o => (kt HK1.out hK2).alloc (fun k h => ltl h (Nat.le_trans HK1.out.size hK2.size)) o
 obtain ⟨kd, hkd⟩ : ∃ kd, (M.nd t).kind = kd := ⟨_, rfl⟩
 have HKD : Hid ((M.nd t).kind = kd) := hkd
 rw [hkd]
 clear r2 hK2 hkd
 by_cases c : kd = 5
 ·subst c
  go_wp2
  go_ret
  exact ⟨_, .yes HT.out HKD.out, rfl, HK2.out _⟩
 ·have e1 : ((kd : Int) == 5) = false := by simp; omega
  have e2 : ¬ (kd : Int) = 5 := by omega
  go_wp2
  go_ret
  exact ⟨_, .no HT.out (by rw [HKD.out]; exact c), rfl, HK2.out _⟩
end
end Go.Proofs.YtfeinppedejlpaaGreat
