/-
  The walk of SignalLate.
-/
import Derived.Test.YtkngpgkldkohgaaGreatVf
import Derived.Test.YtkngpgkldkohgaaGreatVt
import Derived.Test.YtkngpgkldkohgaaGreatV2
import Derived.Deep.MidRow
namespace Go.Proofs.YtkngpgkldkohgaaGreat
open Go.RowKit Go.Sort
set_option linter.unusedVariables false
set_option maxRecDepth 100000
set_option maxHeartbeats 8000000
theorem seeP_new (asg : Nat -> List Nat) : ∀ m, seeP asg (fun _ => []) [] m = (List.range m).filter fun i => decide (asg i ≠ [])
 | 0 => rfl
 | m + 1 => by
  show (if asg m = [] then seeP asg (fun _ => []) [] m else mkP (seeP asg (fun _ => []) [] m) m) = _
  rw [seeP_new asg m, List.range_succ, List.filter_append]
  by_cases c : asg m = []
  ·rw [if_pos c, List.filter_cons_of_neg (by simp [c]), List.filter_nil, List.append_nil]
  ·rw [if_neg c, List.filter_cons_of_pos (by simp [c]), List.filter_nil]
   unfold mkP
   rw [if_neg fun h => by have := List.mem_range.1 (List.mem_filter.1 h).1; omega]
def KB (B : Nat) (EB : Nat -> Prop) (k : Nat) : Prop := k < B \/ EB k
theorem Grown.see {B : Nat} {EB E1 E : Nat -> Prop} {X X1 : World} {p r : Nat} {M : Dm} {R G : Nat -> List Nat} {rk : Nat -> Nat} {lim : Nat} (h : Grown (KB B EB) E X p r M R G rk lim) (hB : B <= X.heap.size) (g : Gr EB E1 X X1) (hl : ∀ k, E1 k -> k < X1.heap.size) : Grown (KB B E1) E X1 p r M R G rk lim := by
 have hsz := g.kept.size
 have hEX : ∀ k, E k -> k < X.heap.size := fun k hk => h.two.d.lt k (.inr hk)
 have back : ∀ k, k < X.heap.size -> KB B E1 k -> KB B EB k := fun k hk hh => by
  rcases hh with hh | hh
  ·exact .inl hh
  ·rcases g.new k hh with hh | hh
   ·exact .inr hh
   ·omega
 refine ⟨⟨h.two.d.move (fun q hq hn => g.kept.block q ⟨hq, fun he => hn (.inl (.inr he))⟩) (fun k hk hh => ?_) (fun k hh => ?_), h.two.r.move (fun q hq hn => g.kept.block q ⟨hq, fun he => hn (.inl (.inr he))⟩) hsz (fun k hk hh => ?_) (fun k hh => ?_), fun k hE hk => ?_⟩, h.inv, h.lim, h.le⟩
 ·rcases hh with hh | hh
  ·exact .inl (back k hk hh)
  ·exact .inr hh
 ·rcases hh with (hh | hh) | hh
  ·omega
  ·exact hl k hh
  ·exact Nat.lt_of_lt_of_le (hEX k hh) hsz
 ·rcases hh with hh | hh
  ·exact .inl (back k hk hh)
  ·exact .inr ⟨hk, hh.2⟩
 ·rcases hh with (hh | hh) | hh
  ·omega
  ·exact hl k hh
  ·exact hh.1
 ·exact h.two.nk k hE (back k (hEX k hE) hk)
theorem Bo.ltE {E : Nat -> Prop} {w : World} {b n : Nat} {kn : Nat -> List Nat} {pd : List Nat} (h : Bo E w b n kn pd) : ∀ k, E k -> k < w.heap.size := h.lt
theorem slate_go (l : List Opx) (n : Nat) (hln : l.length = n) (hnn : n <= 60) (a : Option Addr) (c : Nat) (hok : ∀ o ∈ l, OpOk o) (hb : opsH l <= 6000) (w : World) (h : OpsAt (fun k => k < w.heap.size) w a l) :
  Calls Tryz.prog 5 #[.slice a n c] w fun e w' => e = .returned (.bool true) /\ Kept (fun k => k < w.heap.size) w w' := by
 have rh := heavy_any l n hln (by omega) a c (by omega) w h
 have hg60 : decide ((n : Int) > 60) = false := decide_eq_false (by omega)
 obtain ⟨hv, hhv⟩ : ∃ hv, opsH l = hv := ⟨_, rfl⟩
 rw [hhv] at rh
 have hg6 : decide ((hv : Int) > 6000) = false := decide_eq_false (by omega)
 have HRN : Hid (∀ X, Calls Tryz.prog 32 #[.int .i64 300] X fun e w' => ∃ p, e = .returned (.pointer (some ⟨p, 0, none⟩)) /\ X.heap.size <= p /\ RX (fun k => k < X.heap.size) w' p (Dm.new 300) (fun _ => []) (fun _ => []) /\ Kept (fun k => k < X.heap.size) X w') := fun X => rnew_yes 300 X (by decide) (by decide)
 have HL : Hid (l.length = n) := hln
 have HB : Hid (opsH l <= 900000) := by rw [hhv]; exact (by omega : hv <= 900000)
 have HH : Hid (OpsAt (fun k => k < w.heap.size) w a l) := h
 have HOK : Hid (∀ o ∈ l, OpOk o) := hok
 clear hln hok h hhv hb
 go_enter Tryz.func5, Tryz.ntmps5
 go_wp2_with fail
 refine rh.mono ?_
 rintro e wA ⟨rfl, kwA⟩
 have rk0 := gknown_any wA
 have HKu1 : Hid (Kept (fun k => k < w.heap.size) w wA) := kwA
 clear rh kwA
 go_wp2_with fail
 refine rk0.mono ?_
 rintro e wB ⟨rfl, kwB⟩
 have HKu2 : Hid (Kept (fun k => k < w.heap.size) w wB) := HKu1.out.trans (kwB.mono fun k h => Nat.lt_of_lt_of_le h HKu1.out.size)
 have rn := new_yes 300 wB (by decide) (by decide)
 clear rk0 kwB hg6 hg60
 go_wp2_with fail
 refine rn.mono ?_
 rintro e w1 ⟨p, rfl, hp, hX1, k1⟩
 have rn2 := HRN.out w1
 have HX1 : Hid (DX (fun k => k < wB.heap.size) w1 p (Dm.new 300)) := hX1
 have HK1 : Hid (Kept (fun k => k < wB.heap.size) wB w1) := k1
 clear rn hX1 k1 HRN hp
 go_wp2_with fail
 refine rn2.mono ?_
 rintro e w2 ⟨r, rfl, hr, hX2, k2⟩
 have HG2 : Hid (Grown (fun k => k < wB.heap.size) (fun k => w1.heap.size <= k /\ k < w2.heap.size) w2 p r (Dm.new 300) (fun _ => []) (fun _ => []) (fun _ => 0) 300) := ⟨two_new HX1.out HK1.out hX2 k2, Inv.new 300, rfl, by show 1 <= 300; decide⟩
 have HK2 : Hid (Kept (fun k => k < wB.heap.size) wB w2) := HK1.out.trans (k2.mono fun k h => Nat.lt_of_lt_of_le h HK1.out.size)
 have rb := bnew_any w2
 clear rn2 hX2 k2 hr HX1 HK1
 go_wp2_with fail
 refine rb.mono ?_
 rintro e w3 ⟨b, rfl, hBo, k3⟩
 have HG3 : Hid (Grown (KB wB.heap.size (fun k => k = w2.heap.size \/ k = w2.heap.size + 1)) (fun k => w1.heap.size <= k /\ k < w2.heap.size) w3 p r (Dm.new 300) (fun _ => []) (fun _ => []) (fun _ => 0) 300) := by
  have h0 : Grown (KB wB.heap.size (fun _ => False)) (fun k => w1.heap.size <= k /\ k < w2.heap.size) w2 p r (Dm.new 300) (fun _ => []) (fun _ => []) (fun _ => 0) 300 := by
   have e : (KB wB.heap.size (fun _ => False)) = fun k => k < wB.heap.size := by funext k; unfold KB; simp
   rw [e]; exact HG2.out
  exact h0.see HK2.out.size ⟨fun _ h => h.elim, fun k hk => .inr (by rcases hk with rfl | rfl <;> omega), k3.mono fun k h => h.1⟩ hBo.lt
 have HBo : Hid (Bo (fun k => k = w2.heap.size \/ k = w2.heap.size + 1) w3 b 0 (fun _ => []) []) := hBo
 have HK3 : Hid (Kept (fun k => k < wB.heap.size) wB w3) := HK2.out.trans (k3.mono fun k h => Nat.lt_of_lt_of_le h HK2.out.size)
 have HE3 : Hid (∀ k, (k = w2.heap.size \/ k = w2.heap.size + 1) -> wB.heap.size <= k) := fun k hk => by have := HK2.out.size; rcases hk with rfl | rfl <;> omega
 obtain ⟨EB, hEB⟩ : ∃ EB : Nat -> Prop, (fun k => k = w2.heap.size \/ k = w2.heap.size + 1) = EB := ⟨_, rfl⟩
 have HE3' : Hid (∀ k, EB k -> wB.heap.size <= k) := by rw [<- hEB]; exact HE3.out
 rw [hEB] at HG3 HBo
 clear rb hBo k3 HG2 HK2 HE3 hEB
 go_upto_region 9 with fail
 go_loopg [6] n (fun gh v wr => ∃ (k : Nat) (E : Nat -> Prop) (M : Dm) (R G : Nat -> List Nat) (rk : Nat -> Nat), gh = n - k /\ k <= n /\ v = .int .i64 (k : Int) /\ Grown (KB wB.heap.size EB) E wr p r M R G rk 300 /\ Bo EB wr b 0 (fun _ => []) [] /\ Kept (fun k => k < wB.heap.size) wB wr)
 case atStart => exact ⟨0, _, _, _, _, _, rfl, Nat.zero_le _, rfl, HG3.out, HBo.out, HK3.out⟩
 case round =>
  clear HG3 HBo HK3
  obtain ⟨k, E, M, R, G, rk, hgk, hk, rfl, hG, hBo, hK⟩ := hrel
  have hKw : Kept (fun k => k < w.heap.size) w wr := HKu2.out.trans (hK.mono fun k h => Nat.lt_of_lt_of_le h HKu2.out.size)
  by_cases hlt : k < n
  ·have hll : k < l.length := by rw [HL.out]; exact hlt
   obtain ⟨g, o, A, rfl, hg, hA, hc⟩ := HH.out k hll
   have hmem := List.getElem_mem hll
   obtain ⟨x, hx⟩ : ∃ x, l[k] = x := ⟨_, rfl⟩
   rw [hx] at hA hc hmem
   have hvx := opsH_mem hmem
   have hrange : wr.rangeAt g (o + k * 17) (opC x A) := fun f u hu => (hKw.cell (p := ⟨g, o + k * 17 + f, none⟩) hg).trans (hc f u hu)
   obtain ⟨N, hN⟩ : ∃ N, wr.heap.size = N := ⟨_, rfl⟩
   have hb1 : (wr.alloc (.cells zero17 55)).heap[N]? = some (.cells zero17 55 (0, 0)) := by rw [<- hN]; exact heap_alloc_new wr _
   obtain ⟨W1, hW1⟩ : ∃ W1, (wr.alloc (.cells zero17 55)).setRow N (opC x A).toArray = W1 := ⟨_, rfl⟩
   have hB1 : W1.heap[N]? = some (.cells (opC x A).toArray 55 (0, 0)) := by rw [<- hW1]; exact setRow_heap _ _ _ _ _ _ hb1
   have k1 : Kept (fun k => k < wr.heap.size) wr W1 := by rw [<- hW1]; exact kept_setRow ((Kept.refl _ wr).alloc (fun _ h => h) _) (by rw [hN]; exact Nat.lt_irrefl _) _
   obtain ⟨W2, hW2⟩ : ∃ W2, W1.setCell ⟨N, 4, none⟩ (.bool true) = W2 := ⟨_, rfl⟩
   have hB2 : W2.heap[N]? = some (.cells (opC { x with inn := true } A).toArray 55 (0, 0)) := by rw [<- hW2]; exact heap_setCell_list hB1 4 (.bool true)
   have k2 : Kept (fun k => k < wr.heap.size) wr W2 := by rw [<- hW2]; exact k1.setCell (p := ⟨N, 4, none⟩) (by rw [hN]; exact Nat.lt_irrefl _) _
   have k2w : Kept (fun k => k < w.heap.size) w W2 := hKw.trans (k2.mono fun k h => Nat.lt_of_lt_of_le h hKw.size)
   have b4 : W1.cell? ⟨N, 4, none⟩ = some (.bool x.inn) := by rw [cell_block hB1]; rfl
   have f4 : W1.frozen? ⟨N, 4, none⟩ = false := frozen_block hB1 4
   have e0 : W2.cell? ⟨N, 0, none⟩ = some (.int .u8 (x.k : Int)) := by rw [cell_block hB2]; rfl
   have hwu : w.heap.size <= wB.heap.size := HKu2.out.size
   have hdoes := does_any (KB wB.heap.size EB) E p r M R G rk W2 { x with inn := true } A ⟨(hG.kept k2).two, hG.inv, hG.le, by rw [hG.lim]; decide, (HOK.out x hmem).inn, by have := HB.out; show opH x <= _; omega, hA.kept k2w (fun g hg => .inl (Nat.lt_of_lt_of_le hg hwu))⟩
   obtain ⟨cs, hcs⟩ : ∃ cs, (opC x A).toArray = cs := ⟨_, rfl⟩
   have hsz : cs.size = 17 := by rw [<- hcs]; rfl
   have hone : cs.all (·.oneCell') = true := by rw [<- hcs]; exact opC_one x A
   have hlen : (opC x A).length = 17 := rfl
   obtain ⟨cl, hcl⟩ : ∃ cl, opC x A = cl := ⟨_, rfl⟩
   have hcc : cl.toArray = cs := by rw [<- hcl]; exact hcs
   rw [hcl] at hrange hlen
   have hil : (Tryz.prog.info? 55).map (·.size) = some cl.length := by rw [hlen]; exact size37 cs hsz |>.trans (by rw [hsz])
   have HW1 : Hid ((wr.alloc (.cells zero17 55)).setRow N cs = W1) := by rw [<- hcs]; exact hW1
   have HW2 : Hid (W1.setCell ⟨N, 4, none⟩ (.bool true) = W2) := hW2
   have HN : Hid (wr.heap.size = N) := hN
   obtain ⟨cs2, hcs2⟩ : ∃ cs2, (opC { x with inn := true } A).toArray = cs2 := ⟨_, rfl⟩
   have hsz2 : cs2.size = 17 := by rw [<- hcs2]; rfl
   rw [hcs2] at hB2
   obtain ⟨q, hq⟩ : ∃ q, x.k % 16 = q := ⟨_, rfl⟩
   have hkm : (x.k : Int).tmod 16 = (q : Int) := by rw [<- hq]; rfl
   have HD : Hid (Calls Tryz.prog 34 #[.pointer (some ⟨p, 0, none⟩), .pointer (some ⟨r, 0, none⟩), .agg cs2] W2 (DoesOk (KB wB.heap.size EB) p r M W2)) := by rw [<- hcs2]; exact hdoes
   have HGW : Hid (Grown (KB wB.heap.size EB) E W2 p r M R G rk 300) := hG.kept k2
   have HBW : Hid (Bo EB W2 b 0 (fun _ => []) []) := hBo.keptA k2
   have HKW2 : Hid (Kept (fun k => k < wB.heap.size) wB W2) := hK.trans (k2.mono fun k h => Nat.lt_of_lt_of_le h hK.size)
   clear hG hK hKw hc hA hmem hx hvx hdoes hq hW1 hW2 hB1 k1 k2 k2w hcs hcs2 hN hlen hcl hBo hwu
   go_upto_region 11 with fail
   go_upto_region 12 with (first | (refine wpList_load_mid rfl 55 _ rfl g (o + k * 17) rfl cl _ hrange Tryz.underlying55 rfl hil ?_; rw [hcc]) | (rw [HN.out]; refine wpList_store_row rfl 55 _ _ rfl N cs rfl rfl 55 _ hb1 (size37 _ hsz) (by rw [hsz]; rfl) hone ?_))
   rw [HW1.out]
   clear hrange hb1 HW1
   go_upto_region 13 with fail
   rw [HW2.out]
   clear b4 f4 HW2
   by_cases q15 : q = 15
   ·subst q15
    clear HD
    go_wp2
    go_roundg (n - (k + 1))
    case rel => exact ⟨k + 1, E, M, R, G, rk, rfl, by omega, by go_num, HGW.out, HBW.out, HKW2.out⟩
    case measure => omega
   ·have n15 : ((q : Int) == 15) = false := by simp; omega
    have n15' : ((q : Int) != 15) = true := by simp; omega
    go_upto_region 14 with fail
    go_wp2_with (refine wpList_load_row rfl 55 _ rfl N rfl 55 cs2 (0, 0) _ hB2 Tryz.underlying55 rfl (size37 _ hsz2) ?_)
    refine HD.out.mono ?_
    rintro e w4 ⟨rfl, E', M', R', G', rk', h2, hI, hG', hK4⟩
    have HGX : Hid (Grown (KB wB.heap.size EB) E' w4 p r M' R' G' rk' 300) := ⟨h2, hI, hG'.limit.trans HGW.out.lim, hG'.le HGW.out.le⟩
    have HBX : Hid (Bo EB w4 b 0 (fun _ => []) []) := HBW.out.kept (hK4.mono fun k h => .inr h)
    have HKX : Hid (Kept (fun k => k < wB.heap.size) wB w4) := HKW2.out.trans (hK4.mono fun k h => .inl h)
    clear HD h2 hI hG' hK4 e0 hB2 HGW HBW HKW2
    go_wp2
    go_roundg (n - (k + 1))
    case rel => exact ⟨k + 1, E', M', R', G', rk', rfl, by omega, by go_num, HGX.out, HBX.out, HKX.out⟩
    case measure => omega
  ·have hkn : k = n := by omega
   obtain ⟨nn, hnn0⟩ : ∃ q, M.n = q := ⟨_, rfl⟩
   have hnn3 : nn <= 300 := by have := hG.le; rw [hG.lim] at this; omega
   have HNN : Hid (M.n = nn) := hnn0
   have hd0 : Rd (TK (KB wB.heap.size EB) E) wr p M R G rk := ⟨hG.two.d, hG.inv, by omega⟩
   have rs1 := see_any hBo hd0 (fun k hk => .inl (.inr hk)) (by omega) (by show 0 + M.n <= 90000; omega) (fun _ => Nat.zero_le _)
   have HG : Hid (Grown (KB wB.heap.size EB) E wr p r M R G rk 300) := hG
   have HK : Hid (Kept (fun k => k < wB.heap.size) wB wr) := hK
   clear hkn hG hBo hK hKw hd0 hnn0
   go_wp2_with fail
   refine rs1.mono ?_
   rintro e X1 ⟨rfl, E1, n1, hB1, -, hg1⟩
   have HG1 : Hid (Grown (KB wB.heap.size E1) E X1 p r M R G rk 300) := HG.out.see HK.out.size hg1 hB1.lt
   have HK1 : Hid (Kept (fun k => k < wB.heap.size) wB X1) := HK.out.trans (hg1.kept.mono fun k h => ⟨Nat.lt_of_lt_of_le h HK.out.size, fun he => by have := HE3'.out k he; omega⟩)
   rw [seeP_new, HNN.out] at hB1
   have HB1 : Hid (Bo E1 X1 b n1 (seeK (asgL M R G) (fun _ => []) nn) ((List.range nn).filter fun i => decide (asgL M R G i ≠ []))) := hB1
   have HRR : Hid (Rr (TL (KB wB.heap.size E1) E X1) X1 r M R G rk) := ⟨HG1.out.two.r, HG1.out.inv, by rw [HNN.out]; omega⟩
   clear rs1 hB1 hg1 HG HK
   go_upto_region 18 with fail
   go_loopg [8, 9] nn (fun gh v8 v9 wr => ∃ (j ln c2 : Nat) (ao : Option Addr), gh = nn - j /\ j <= nn /\ v9 = .int .i64 (j : Int) /\ v8 = .slice ao ln c2 /\ ((List.range j).filter fun i => decide (asgL M R G i ≠ [])).length = ln /\ OwnZ (fun k => k < X1.heap.size) wr 3 1 ao ln c2 (ivs ((List.range j).filter fun i => decide (asgL M R G i ≠ []))) /\ Kept (fun k => k < X1.heap.size) X1 wr)
   case atStart => exact ⟨0, 0, 0, none, rfl, Nat.zero_le _, rfl, rfl, rfl, OwnZ.nil _ _ _ _, Kept.refl _ _⟩
   case round =>
    obtain ⟨j, ln, c2, ao, hgj, hj, rfl, rfl, hln, hO, hK⟩ := hrel
    have hn9 : ln <= 300 := by
     rw [<- hln]
     refine Nat.le_trans (List.length_filter_le _ _) ?_
     rw [List.length_range]
     omega
    have rl := (HG1.out.kept hK).len (Kept.refl _ wr)
    rw [HNN.out] at rl
    have HO : Hid (OwnZ (fun k => k < X1.heap.size) wr 3 1 ao ln c2 (ivs ((List.range j).filter fun i => decide (asgL M R G i ≠ [])))) := hO
    have HK : Hid (Kept (fun k => k < X1.heap.size) X1 wr) := hK
    have HLN : Hid (((List.range j).filter fun i => decide (asgL M R G i ≠ [])).length = ln) := hln
    clear hO hK hln
    by_cases hlt : j < nn
    ·have ra := (HRR.out.kept HK.out).asg_in (i := j) (by rw [HNN.out]; exact hlt)
     obtain ⟨zl, hzl⟩ : ∃ q, (asgL M R G j).length = q := ⟨_, rfl⟩
     have HZL : Hid ((asgL M R G j).length = zl) := hzl
     clear hzl
     go_wp2_with fail
     refine rl.mono ?_
     rintro e w4 ⟨rfl, hw4⟩
     replace hw4 := hw4.symm
     subst hw4
     clear rl
     by_cases hz : zl = 0
     ·have HFL : Hid ((List.range (j + 1)).filter (fun i => decide (asgL M R G i ≠ [])) = (List.range j).filter (fun i => decide (asgL M R G i ≠ []))) := by
       have e : asgL M R G j = [] := List.length_eq_zero_iff.1 (HZL.out.trans hz)
       rw [List.range_succ, List.filter_append, List.filter_cons_of_neg (by simp [e]), List.filter_nil, List.append_nil]
       exact rfl
      go_wp2_with fail
      refine ra.mono ?_
      rintro e V ⟨ao2, ac2, rfl, -, hkV⟩
      rw [HZL.out, hz]
      have HKV : Hid (Kept (fun k => k < X1.heap.size) X1 V) := HK.out.trans (hkV.mono fun k h => Nat.lt_of_lt_of_le h HK.out.size)
      have HOV : Hid (OwnZ (fun k => k < X1.heap.size) V 3 1 ao ln c2 (ivs ((List.range j).filter fun i => decide (asgL M R G i ≠ [])))) := HO.out.to (fun q hq => (HO.out.out hq).1) (fun q hq => hkV.block q (HO.out.out hq).2)
      clear ra hkV
      go_wp2
      go_roundg (nn - (j + 1))
      case rel => exact ⟨j + 1, _, _, _, rfl, by omega, by go_num, rfl, by rw [HFL.out]; exact HLN.out, by rw [HFL.out]; exact HOV.out, HKV.out⟩
      case measure => omega
     ·have HFL : Hid ((List.range (j + 1)).filter (fun i => decide (asgL M R G i ≠ [])) = (List.range j).filter (fun i => decide (asgL M R G i ≠ [])) ++ [j]) := by
       have e : asgL M R G j ≠ [] := fun e => hz (by rw [<- HZL.out, e]; rfl)
       rw [List.range_succ, List.filter_append, List.filter_cons_of_pos (by simp [e]), List.filter_nil]
       exact rfl
      have hz' : decide ((zl : Int) > 0) = true := decide_eq_true (by omega)
      go_wp2_with fail
      refine ra.mono ?_
      rintro e V ⟨ao2, ac2, rfl, -, hkV⟩
      rw [HZL.out]
      have HKV : Hid (Kept (fun k => k < X1.heap.size) X1 V) := HK.out.trans (hkV.mono fun k h => Nat.lt_of_lt_of_le h HK.out.size)
      have HOV : Hid (OwnZ (fun k => k < X1.heap.size) V 3 1 ao ln c2 (ivs ((List.range j).filter fun i => decide (asgL M R G i ≠ [])))) := HO.out.to (fun q hq => (HO.out.out hq).1) (fun q hq => hkV.block q (HO.out.out hq).2)
      clear ra hkV
      obtain ⟨ao', c', U, hrun, hO', hK'⟩ := app_one HKV.out HOV.out (by omega) j
      have HOU : Hid (OwnZ (fun k => k < X1.heap.size) U 3 1 ao' (ln + 1) c' (ivs ((List.range (j + 1)).filter fun i => decide (asgL M R G i ≠ []))) /\ Kept (fun k => k < X1.heap.size) X1 U /\ ((List.range (j + 1)).filter fun i => decide (asgL M R G i ≠ [])).length = ln + 1) := by
       rw [HFL.out]
       exact ⟨hO', hK', by rw [List.length_append, HLN.out]; rfl⟩
      clear hO' hK'
      go_upto_region 21 with fail
      clear hz'
      go_wp2_with (at_builtin; refine wpList_appR (w' := U) rfl (.tmp 65) (.tmp 67) 33 33 rfl _ _ (.slice ao' (ln + 1) c') rfl rfl hrun ?_)
      go_roundg (nn - (j + 1))
      case rel => exact ⟨j + 1, _, _, _, rfl, by omega, by go_num, rfl, HOU.out.2.2, HOU.out.1, HOU.out.2.1⟩
      case measure => omega
    ·have hjn : j = nn := by omega
     subst hjn
     have rp := pending_any (HB1.out.keptA HK.out) (by rw [HLN.out]; omega)
     go_wp2_with fail
     refine rl.mono ?_
     rintro e w4 ⟨rfl, hw4⟩
     replace hw4 := hw4.symm
     subst hw4
     clear rl
     go_wp2_with fail
     refine rp.mono ?_
     rintro e Y ⟨ao3, ac3, rfl, hO3, hkY⟩
     rw [HLN.out] at hO3
     rw [HLN.out]
     have hI1 := hO3.intsAt fun q hq => (hO3.out hq).2
     have hI2 := (HO.out.intsAt fun q hq => (HO.out.out hq).2).to (fun q hq => Nat.lt_of_lt_of_le hq hkY.size) (fun q hq => hkY.block q hq)
     have rsi := rsameInts_any _ _ ao3 ao ln ln ac3 c2 HLN.out HLN.out (by omega) (by omega) Y hI1 hI2
     rw [decide_eq_true rfl] at rsi
     have HKY : Hid (Kept (fun k => k < w.heap.size) w Y) := (HKu2.out.trans (HK1.out.mono fun k h => Nat.lt_of_lt_of_le h HKu2.out.size)).trans ((HK.out.trans (hkY.mono fun k h => Nat.lt_of_lt_of_le h HK.out.size)).mono fun k h => Nat.lt_of_lt_of_le h (Nat.le_trans HKu2.out.size HK1.out.size))
     clear rp hO3 hkY hI1 hI2
     go_wp2_with fail
     refine rsi.mono ?_
     rintro e Y2 ⟨rfl, hkY2⟩
     have HKZ : Hid (Kept (fun k => k < w.heap.size) w Y2) := HKY.out.trans (hkY2.mono fun k h => Nat.lt_of_lt_of_le h HKY.out.size)
     clear rsi hkY2
     go_wp2
     go_ret
     exact ⟨rfl, HKZ.out⟩
theorem slate_no (a : Option Addr) (n c hv : Nat) (hnn : n <= 60) (hhv : 6000 < hv) (w : World) (rh : Calls Tryz.prog 29 #[.slice a n c] w fun e w' => e = .returned (.int .i64 (hv : Int)) /\ Kept (fun k => k < w.heap.size) w w') :
  Calls Tryz.prog 5 #[.slice a n c] w fun e w' => e = .returned (.bool true) /\ Kept (fun k => k < w.heap.size) w w' := by
 have hg60 : decide ((n : Int) > 60) = false := decide_eq_false (by omega)
 have hg6 : decide ((hv : Int) > 6000) = true := decide_eq_true (by omega)
 go_enter Tryz.func5, Tryz.ntmps5
 go_wp2_with fail
 refine rh.mono ?_
 rintro e w1 ⟨rfl, k1⟩
 have rk0 := gknown_any w1
 clear rh
 go_wp2_with (go_at_call 30; refine rk0.mono ?_; rintro e w2 ⟨rfl, k2⟩)
 go_ret
 exact ⟨rfl, k1.trans (k2.mono fun k h => Nat.lt_of_lt_of_le h k1.size)⟩
theorem slate_long (a : Option Addr) (n c : Nat) (hnn : 60 < n) (w : World) :
  Calls Tryz.prog 5 #[.slice a n c] w fun e w' => e = .returned (.bool true) /\ Kept (fun k => k < w.heap.size) w w' := by
 have hg60 : decide ((n : Int) > 60) = true := decide_eq_true (by omega)
 have rk0 := gknown_any w
 go_enter Tryz.func5, Tryz.ntmps5
 go_wp2_with (go_at_call 30; refine rk0.mono ?_; rintro e w2 ⟨rfl, k2⟩)
 go_ret
 exact ⟨rfl, k2⟩
end Go.Proofs.YtkngpgkldkohgaaGreat
