/-
 portierelaw13: heavy, and both documents behind calls.
-/
import Derived.Test.YtfeinppedejlpaaGreatNW29
import Derived.Test.YtfeinppedejlpaaGreatNW26
import Derived.Test.YtfeinppedejlpaaGreatNW17
import Derived.Deep.MidRow
namespace Go.Proofs.YtfeinppedejlpaaGreat
set_option linter.unusedVariables false
set_option maxRecDepth 100000
set_option maxHeartbeats 8000000
section
open Go.RowKit Go.Sort
theorem ziy (l : List Opx) (n : Nat) (hln : l.length = n) (hnn : n <= 60) (a : Option Addr) (c : Nat) (hb2 : zdg l <= 2000000) (w : World) (h : Zf4 (fun k => k < w.heap.size) w a l) :
  Calls Tryz.prog 49 #[.slice a n c] w fun e w' => e = .returned (.bool (decide (6000 < zdg l))) /\ Kept (fun k => k < w.heap.size) w w' := by
 have rh := znt l n hln (by omega) a c hb2 w h
 have hg60 : decide ((n : Int) > 60) = false := decide_eq_false (by omega)
 obtain ⟨hv, hhv⟩ : ∃ hv, zdg l = hv := ⟨_, rfl⟩
 rw [hhv] at rh ⊢
 have hg6 : decide ((hv : Int) > 6000) = decide (6000 < hv) := by
  by_cases c6 : 6000 < hv
  ·rw [decide_eq_true c6]; exact decide_eq_true (by omega)
  ·rw [decide_eq_false c6]; exact decide_eq_false (by omega)
 obtain ⟨b, hbb⟩ : ∃ b, decide (6000 < hv) = b := ⟨_, rfl⟩
 rw [hbb] at hg6 ⊢
 clear hhv h hln hb2 hbb
 go_enter Tryz.func49, Tryz.ntmps49
 go_wp2_with (go_at_call 25; refine rh.mono ?_; rintro e w1 ⟨rfl, k1⟩)
 go_ret
 exact ⟨rfl, k1⟩
theorem zp9 (l : List Opx) (n : Nat) (hln : l.length = n) (hnn : n <= 1000000) (a : Option Addr) (c : Nat) (hok : ∀ o ∈ l, Zmt o) (hb : zdg l <= 900000) (w : World) (h : Zf4 (fun k => k < w.heap.size) w a l) :
  Calls Tryz.prog 51 #[.slice a n c] w fun e w' => ∃ p r E M R G rk, e = .returned (.tuple #[.pointer (some ⟨p, 0, none⟩), .pointer (some ⟨r, 0, none⟩)]) /\ Grown (fun k => k < w.heap.size) E w' p r M R G rk 300 /\ Kept (fun k => k < w.heap.size) w w' := by
 have rn := zmr 300 w (by decide) (by decide)
 have HRN : Hid (∀ X, Calls Tryz.prog 28 #[.int .i64 300] X fun e w' => ∃ p, e = .returned (.pointer (some ⟨p, 0, none⟩)) /\ X.heap.size <= p /\ RX (fun k => k < X.heap.size) TT w' p (Dm.new 300) (fun _ => []) (fun _ => []) /\ Kept (fun k => k < X.heap.size) X w') := fun X => zoa 300 X (by decide) (by decide)
 have HL : Hid (l.length = n) := hln
 have HB : Hid (zdg l <= 900000) := hb
 have HH : Hid (Zf4 (fun k => k < w.heap.size) w a l) := h
 have HOK : Hid (∀ o ∈ l, Zmt o) := hok
 clear hln hb h hok
 go_enter Tryz.func51, Tryz.ntmps51
 go_wp2_with fail
 refine rn.mono ?_
 rintro e w1 ⟨p, rfl, hp, hX1, k1⟩
 clear rn
 have rn2 := HRN.out w1
 have HX1 : Hid (DX (fun k => k < w.heap.size) w1 p (Dm.new 300)) := hX1
 have HK1 : Hid (Kept (fun k => k < w.heap.size) w w1) := k1
 clear hX1 k1 HRN
 go_wp2_with fail
 refine rn2.mono ?_
 rintro e w2 ⟨r, rfl, hr, hX2, k2⟩
 clear rn2
 have HG2 : Hid (Grown (fun k => k < w.heap.size) (fun k => w1.heap.size <= k /\ k < w2.heap.size) w2 p r (Dm.new 300) (fun _ => []) (fun _ => []) (fun _ => 0) 300) := ⟨zqm HX1.out HK1.out hX2 k2, Inv.new 300, rfl, by show 1 <= 300; decide⟩
 have HK2 : Hid (Kept (fun k => k < w.heap.size) w w2) := kt HK1.out k2
 clear HX1 HK1 hX2 k2 hp hr
 go_upto_region 4 with fail
 go_loopg [6] n (fun gh v wr => ∃ (k : Nat) (E : Nat -> Prop) (M : Dm) (R G : Nat -> List Nat) (rk : Nat -> Nat), gh = n - k /\ k <= n /\ v = .int .i64 (k : Int) /\ Grown (fun k => k < w.heap.size) E wr p r M R G rk 300 /\ Kept (fun k => k < w.heap.size) w wr)
 case atStart => exact ⟨0, _, _, _, _, _, rfl, Nat.zero_le _, rfl, HG2.out, HK2.out⟩
 case round =>
  clear HG2 HK2
  obtain ⟨k, E, M, R, G, rk, hgk, hk, rfl, hG, hK⟩ := hrel
  have HG : Hid (Grown (fun k => k < w.heap.size) E wr p r M R G rk 300) := hG
  have HK : Hid (Kept (fun k => k < w.heap.size) w wr) := hK
  by_cases hlt : k < n
  ·have hll : k < l.length := by rw [HL.out]; exact hlt
   obtain ⟨g, o, A, rfl, hg, hA, hc⟩ := HH.out k hll
   have hmem := List.getElem_mem hll
   obtain ⟨x, hx⟩ : ∃ x, l[k] = x := ⟨_, rfl⟩
   rw [hx] at hA hc hmem
   have hvx := zoq hmem
   have hrange : wr.rangeAt g (o + k * 17) (opC x A) := fun f u hu => (hK.cell (p := ⟨g, o + k * 17 + f, none⟩) hg).trans (hc f u hu)
   obtain ⟨N, hN⟩ : ∃ N, wr.heap.size = N := ⟨_, rfl⟩
   have hb1 : (wr.alloc (.cells zca 50)).heap[N]? = some (.cells zca 50 (0, 0)) := by rw [<- hN]; exact heap_alloc_new wr _
   obtain ⟨W1, hW1⟩ : ∃ W1, (wr.alloc (.cells zca 50)).setRow N (opC x A).toArray = W1 := ⟨_, rfl⟩
   have hB1 : W1.heap[N]? = some (.cells (opC x A).toArray 50 (0, 0)) := by rw [<- hW1]; exact setRow_heap _ _ _ _ _ _ hb1
   have k1 : Kept (fun k => k < wr.heap.size) wr W1 := by rw [<- hW1]; exact zaq ((Kept.refl _ wr).alloc (fun _ h => h) _) (by rw [hN]; exact Nat.lt_irrefl _) _
   obtain ⟨W2, hW2⟩ : ∃ W2, W1.setCell ⟨N, 4, none⟩ (.bool true) = W2 := ⟨_, rfl⟩
   have hB2 : W2.heap[N]? = some (.cells (opC { x with inn := true } A).toArray 50 (0, 0)) := by rw [<- hW2]; exact zci hB1 4 (.bool true)
   have k2 : Kept (fun k => k < wr.heap.size) wr W2 := by rw [<- hW2]; exact k1.setCell (p := ⟨N, 4, none⟩) (by rw [hN]; exact Nat.lt_irrefl _) _
   have k2w : Kept (fun k => k < w.heap.size) w W2 := kt hK k2
   have b4 : W1.cell? ⟨N, 4, none⟩ = some (.bool x.inn) := by rw [zaa hB1]; rfl
   have f4 : W1.frozen? ⟨N, 4, none⟩ = false := zao hB1 4
   have e0 : W2.cell? ⟨N, 0, none⟩ = some (.int .u8 (x.k : Int)) := by rw [zaa hB2]; rfl
   have hdoes := znx (fun k => k < w.heap.size) E p r M R G rk W2 { x with inn := true } A ⟨(hG.kept k2).two, hG.inv, hG.le, by rw [hG.lim]; decide, (HOK.out x hmem).inn, by have := HB.out; show opH x <= _; omega, hA.kept k2w (fun g hg => hg), rfl⟩
   obtain ⟨cs, hcs⟩ : ∃ cs, (opC x A).toArray = cs := ⟨_, rfl⟩
   have hsz : cs.size = 17 := by rw [<- hcs]; rfl
   have hone : cs.all (·.oneCell') = true := by rw [<- hcs]; exact zff x A
   have hlen : (opC x A).length = 17 := rfl
   obtain ⟨cl, hcl⟩ : ∃ cl, opC x A = cl := ⟨_, rfl⟩
   have hcc : cl.toArray = cs := by rw [<- hcl]; exact hcs
   rw [hcl] at hrange hlen
   have hil : (Tryz.prog.info? 50).map (·.size) = some cl.length := by rw [hlen]; exact zcz cs hsz |>.trans (by rw [hsz])
   have HW1 : Hid ((wr.alloc (.cells zca 50)).setRow N cs = W1) := by rw [<- hcs]; exact hW1
   have HW2 : Hid (W1.setCell ⟨N, 4, none⟩ (.bool true) = W2) := hW2
   have HN : Hid (wr.heap.size = N) := hN
   have HN' : Hid (N = wr.heap.size) := hN.symm
   obtain ⟨cs2, hcs2⟩ : ∃ cs2, (opC { x with inn := true } A).toArray = cs2 := ⟨_, rfl⟩
   have hsz2 : cs2.size = 17 := by rw [<- hcs2]; rfl
   rw [hcs2] at hB2
   obtain ⟨q, hq⟩ : ∃ q, x.k % 16 = q := ⟨_, rfl⟩
   have hkm : (x.k : Int).tmod 16 = (q : Int) := by rw [<- hq]; rfl
   have HD : Hid (Calls Tryz.prog 31 #[.pointer (some ⟨p, 0, none⟩), .pointer (some ⟨r, 0, none⟩), .agg cs2] W2 (Zfp x.k (fun k => k < w.heap.size) p r M W2)) := by rw [<- hcs2]; exact hdoes
   have HG2 : Hid (Grown (fun k => k < w.heap.size) E W2 p r M R G rk 300) := hG.kept k2
   have HK2 : Hid (Kept (fun k => k < w.heap.size) w W2) := k2w
   clear hG hK hc hA hmem hx hvx hdoes hq hW1 hW2 hB1 k1 k2 k2w hcs hcs2 hN hlen hcl
   go_upto_region 6 with fail
   go_upto_region 7 with (first | (refine wpList_load_mid rfl 50 _ rfl g (o + k * 17) rfl cl _ hrange Tryz.underlying50 rfl hil ?_; rw [hcc]) | (rw [HN.out]; refine wpList_store_row rfl 50 _ _ rfl N cs rfl rfl 50 _ hb1 (zcz _ hsz) (by rw [hsz]; rfl) hone ?_))
   rw [HW1.out]
   clear hrange hb1 HW1
   go_upto_region 8 with fail
   rw [HW2.out]
   clear b4 f4 HW2
   by_cases q15 : q = 15
   ·subst q15
    clear HD
    go_wp2
    go_roundg (n - (k + 1))
    case rel => exact ⟨k + 1, E, M, R, G, rk, rfl, by omega, by go_num, HG2.out, HK2.out⟩
    case measure => omega
   ·have n15 : ((q : Int) == 15) = false := by simp; omega
    have n15' : ((q : Int) != 15) = true := by simp; omega
    go_upto_region 9 with fail
    go_wp2_with (refine wpList_load_row rfl 50 _ rfl N rfl 50 cs2 (0, 0) _ hB2 Tryz.underlying50 rfl (zcz _ hsz2) ?_)
    refine HD.out.mono ?_
    rintro e w3 ⟨rfl, E', M', R', G', rk', h2, hI, hG', hK3⟩
    have HG3 : Hid (Grown (fun k => k < w.heap.size) E' w3 p r M' R' G' rk' 300) := ⟨h2, hI, hG'.limit.trans HG2.out.lim, hG'.le HG2.out.le⟩
    have HK3 : Hid (Kept (fun k => k < w.heap.size) w w3) := HK2.out.trans hK3
    clear HD h2 hI hG' hK3 HG2 HK2 e0 hB2
    go_wp2
    go_roundg (n - (k + 1))
    case rel => exact ⟨k + 1, E', M', R', G', rk', rfl, by omega, by go_num, HG3.out, HK3.out⟩
    case measure => omega
  ·have hkn : n = k := by omega
   subst hkn
   clear hG hK
   go_wp2
   go_ret2
   exact ⟨p, r, E, M, R, G, rk, rfl, HG.out, HK.out⟩
end
end Go.Proofs.YtfeinppedejlpaaGreat
