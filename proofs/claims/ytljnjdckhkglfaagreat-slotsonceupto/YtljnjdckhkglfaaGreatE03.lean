/-
 The walk of FlatTree.; The walk of SlotsOnce.
-/
import Derived.Test.YtljnjdckhkglfaaGreatE01
import Derived.Test.YtljnjdckhkglfaaGreatB30
import Derived.Test.YtljnjdckhkglfaaGreatB32
import Derived.Test.YtljnjdckhkglfaaGreatE02
import Derived.Test.YtljnjdckhkglfaaGreatC02
import Derived.Laws.MakeOwn
import Derived.Laws.OwnMore
namespace Go.Proofs.YtljnjdckhkglfaaGreat
set_option linter.unusedVariables false
set_option maxRecDepth 100000
set_option maxHeartbeats 8000000
section
open Go.RowKit Go.Sort
section
variable {K E : Nat -> Prop} {w : World} {p r : Nat} {M : Dm} {R G : Nat -> List Nat} {rk : Nat -> Nat} {lim : Nat}
theorem Grown.rd (h : Grown K E w p r M R G rk lim) (hl : lim <= 100000) {X : World} (hk : Kept (fun k => k < w.heap.size) w X) : Rd (TK K E) X p M R G rk := ⟨h.two.d.kept hk, h.inv, h.nle hl⟩
end
theorem Way.on {n : Nat} {rk : Nat -> Nat} {steps m : Nat} {l : List Nat} (h : Way n rk steps (m : Int) l) {z : Int} (hz : z = -1 \/ ∃ u : Nat, u < n /\ z = (u : Int) /\ rk u < rk m) : Way n rk (steps + 1) z (m :: l) := by
 have hm := h.le.1
 rcases h.at0 with e | ⟨m', hm', e, hr⟩
 ·omega
 ·have : m' = m := by omega
  subst this
  refine ⟨by rw [List.length_cons, h.len], List.nodup_cons.2 ⟨fun hm' => Nat.lt_irrefl _ (hr _ hm'), h.nd⟩, fun x hx => ?_, ?_⟩
  ·rcases List.mem_cons.1 hx with rfl | hx
   ·exact hm
   ·exact h.lt x hx
  ·rcases hz with e | ⟨u, hu, e, hr'⟩
   ·exact .inl e
   ·refine .inr ⟨u, hu, e, fun x hx => ?_⟩
    rcases List.mem_cons.1 hx with rfl | hx
    ·exact hr'
    ·exact Nat.lt_trans hr' (hr x hx)
end
section
open Go.RowKit Go.Sort
theorem Inv.find_nat {M : Dm} {R G : Nat -> List Nat} {rk : Nat -> Nat} (h : Inv M R G rk) {k : Nat} (hk : k < M.n) (hz : findZ M R k ≠ -1) : ∃ s : Nat, findZ M R k = (s : Int) := by
 rcases h.findC hk with ⟨e', _⟩ | ⟨o, s, _, _, _, _, _, _, e'⟩ | ⟨o, s, _, _, _, _, _, _, e'⟩
 ·exact absurd e' hz
 ·by_cases cc : ofZ M (M.gf k).up = (s : Int)
  ·have e2 : findZ M R k = (M.gf k).up := by rw [e']; unfold handZ; rw [if_pos cc]
   rcases h.gw.inn k hk with h0 | ⟨v, _, e'', _⟩
   ·exact absurd (e2.trans h0) hz
   ·exact ⟨v, e2.trans e''⟩
  ·exact absurd (by rw [e']; unfold handZ; rw [if_neg cc]) hz
 ·rcases fstO_or (fun x => slNm (atV slotN (M.nd k).attrs) (M.nd x)) (tr M.n R s) with ⟨q, _⟩ | ⟨x, _, _, q⟩
  ·exact absurd (e'.trans q) hz
  ·exact ⟨x, e'.trans q⟩
def b01 (b : Bool) : Int := if b = true then 1 else 0
def Cn (w : World) (g m : Nat) (P : Nat -> Bool) : Prop := ∃ cur : Array Value, w.heap[g]? = some (.cells cur 3 (0, 0)) /\ cur.size = m /\ ∀ x, x < m -> cur[x]? = some (.int .i64 (b01 (P x)))
section
variable {w w' : World} {g m : Nat} {P Q : Nat -> Bool}
theorem Cn.cell (h : Cn w g m P) {x : Nat} (hx : x < m) : w.cell? ⟨g, x, none⟩ = some (.int .i64 (b01 (P x))) := by
 obtain ⟨cur, hb, _, hc⟩ := h
 rw [cell_block hb]
 exact hc x hx
theorem Cn.fz (h : Cn w g m P) (x : Nat) : w.frozen? ⟨g, x, none⟩ = false := by
 obtain ⟨cur, hb, _, _⟩ := h
 exact frozen_block hb x
theorem Cn.kept (h : Cn w g m P) (hk : w'.heap[g]? = w.heap[g]?) : Cn w' g m P := by
 obtain ⟨cur, hb, hc⟩ := h
 exact ⟨cur, hk.trans hb, hc⟩
theorem Cn.set (h : Cn w g m P) {x : Nat} (hx : x < m) (hQ : ∀ y, y < m -> Q y = if y = x then true else P y) : Cn (w.setCell ⟨g, x, none⟩ (.int .i64 1)) g m Q := by
 obtain ⟨cur, hb, hs, hc⟩ := h
 refine ⟨cur.setIfInBounds x (.int .i64 1), heap_setCell_at hb x _, by simp [hs], fun y hy => ?_⟩
 rw [hQ y hy]
 by_cases c : y = x
 ·subst c
  rw [if_pos rfl, Array.getElem?_setIfInBounds_self_of_lt (by omega)]
  rfl
 ·rw [if_neg c, Array.getElem?_setIfInBounds_ne (fun e => c e.symm)]
  exact hc y hy
end
theorem Cn.made (W : World) (m : Nat) (hm : m <= 1000000) : ∃ mc, (Instr.makeSlice 33 (.int .i64 (m : Int)) (.int .i64 (m : Int))).run Tryz.prog W = .ok (.slice (some ⟨W.heap.size, 0, none⟩) m m) (W.alloc (.cells mc 3)) /\ Cn (W.alloc (.cells mc 3)) W.heap.size m fun _ => false := by
 obtain ⟨inf, hi, hip⟩ := Option.map_eq_some_iff.1 infoInt
 have hz0 : inf.zero = _ := congrArg (·.1) hip
 have hsz : inf.size = 1 := congrArg (·.2.1) hip
 have hby : inf.bytes = 8 := congrArg (·.2.2) hip
 have hmk := run_make (P := Tryz.prog) W 33 3 inf _ Tryz.underlying33 hi hz0 .i64 .i64 (m : Int) (m : Int) (by omega) (Int.le_refl _) (by rw [hby]; omega) (by omega)
 have hl : (m : Int).toNat * inf.size = m := by rw [hsz, Int.toNat_natCast, Nat.mul_one]
 rw [hl] at hmk
 refine ⟨madeCells (Value.cells (.int .i64 0)) m, hmk, madeCells (Value.cells (.int .i64 0)) m, heap_alloc_new W _, size_madeCells _ _, fun x hx => ?_⟩
 show (madeCells #[.int .i64 0] m)[x]? = some (.int .i64 0)
 rw [<- Array.getElem?_toList, toList_madeCells_one, List.getElem?_replicate, if_pos hx]
theorem sonce_go (l : List Opx) (n : Nat) (hln : l.length = n) (hnn : n <= 60) (a : Option Addr) (c : Nat) (hok : ∀ o ∈ l, OpOk o) (hb : opsH l <= 6000) (w : World) (h : OpsAt (fun k => k < w.heap.size) w a l) :
  Calls Tryz.prog 4 #[.slice a n c] w fun e w' => e = .returned (.bool true) /\ Kept (fun k => k < w.heap.size) w w' := by
 have rh := heavy11_any l n hln hnn a c (by omega) w h
 rw [decide_eq_false (by omega : ¬ 6000 < opsH l)] at rh
 have RG : Hid (∀ X, Kept (fun k => k < w.heap.size) w X -> Calls Tryz.prog 18 #[.slice a n c] X fun e w' => ∃ p r E M R G rk, e = .returned (.tuple #[.pointer (some ⟨p, 0, none⟩), .pointer (some ⟨r, 0, none⟩)]) /\ Grown (fun k => k < X.heap.size) E w' p r M R G rk 300 /\ Kept (fun k => k < X.heap.size) X w') := fun X hX => grown11 l n hln (by omega) a c hok (by omega) X (h.kept hX fun g hg => Nat.lt_of_lt_of_le hg hX.size)
 clear hln hok hb h
 go_enter Tryz.func4, Tryz.ntmps4
 go_wp2_with fail
 refine rh.mono ?_
 rintro e w1 ⟨rfl, k1⟩
 have rk0 := sknown_any w1
 clear rh
 go_wp2_with fail
 refine rk0.mono ?_
 rintro e w2 ⟨rfl, k2⟩
 have k12 : Kept (fun k => k < w.heap.size) w w2 := k1.trans (k2.mono fun k h => Nat.lt_of_lt_of_le h k1.size)
 have rg := RG.out w2 k12
 have HK12 : Hid (Kept (fun k => k < w.heap.size) w w2) := k12
 clear rk0 k1 k2 k12 RG
 go_wp2_with fail
 refine rg.mono ?_
 rintro e W ⟨p, r, E, M, R, G, rk, rfl, hG, hK⟩
 have HKW : Hid (Kept (fun k => k < w.heap.size) w W) := HK12.out.trans (hK.mono fun k h => Nat.lt_of_lt_of_le h HK12.out.size)
 obtain ⟨m, hm⟩ : ∃ m, M.n = m := ⟨_, rfl⟩
 have HM : Hid (M.n = m) := hm
 have hm300 : m <= 300 := by have h1 := hG.le; rw [hG.lim, hm] at h1; exact h1
 have RL : Hid (∀ X, Kept (fun k => k < W.heap.size) W X -> Calls Tryz.prog 19 #[.pointer (some ⟨p, 0, none⟩)] X fun e w' => e = .returned (.int .i64 (m : Int)) /\ w' = X) := fun X hX => by rw [<- hm]; exact hG.len hX
 have RD : Hid (∀ X, Kept (fun k => k < W.heap.size) W X -> Rd (TK (fun k => k < w2.heap.size) E) X p M R G rk) := fun X hX => hG.rd (by decide) hX
 have HI : Hid (Inv M R G rk) := hG.inv
 have rl := RL.out W (Kept.refl _ _)
 obtain ⟨mc, hmk, hcn⟩ := Cn.made W m (by omega)
 obtain ⟨V, hV⟩ : ∃ V, W.alloc (.cells mc 3) = V := ⟨_, rfl⟩
 obtain ⟨N, hN⟩ : ∃ N, W.heap.size = N := ⟨_, rfl⟩
 have kV : Kept (fun k => k < W.heap.size) W V := by rw [<- hV]; exact (Kept.refl _ W).alloc (fun _ h => h) _
 rw [hV, hN] at hcn hmk
 have HKV : Hid (Kept (fun k => k < W.heap.size) W V) := kV
 have HN : Hid (W.heap.size = N) := hN
 have HCN : Hid (Cn V N m fun x => decide (0 <= findZ M R x /\ findZ M R x < ((0 : Nat) : Int))) := by
  have e : (fun x => decide (0 <= findZ M R x /\ findZ M R x < ((0 : Nat) : Int))) = fun _ => false := by
   funext x
   exact decide_eq_false (by omega)
  rw [e]; exact hcn
 clear rg hG hK hm hcn hV hN kV
 go_upto_region 8 with (go_at_call 19; refine rl.mono ?_; rintro e1 w3 ⟨rfl, hw3⟩; replace hw3 := hw3.symm; subst hw3)
 clear rl hmk
 go_loopg [6] m (fun gh v6 wr => ∃ k : Nat, gh = m - k /\ k <= m /\ v6 = .int .i64 (k : Int) /\ Kept (fun k => k < W.heap.size) W wr /\ Cn wr N m fun x => decide (0 <= findZ M R x /\ findZ M R x < (k : Int)))
 case atStart => exact ⟨0, rfl, Nat.zero_le _, rfl, HKV.out, HCN.out⟩
 case round =>
  clear HCN HKV
  obtain ⟨k, hgk, hk, rfl, hKr, hCr⟩ := hrel
  have HKR : Hid (Kept (fun k => k < W.heap.size) W wr) := hKr
  have HCR : Hid (Cn wr N m fun x => decide (0 <= findZ M R x /\ findZ M R x < (k : Int))) := hCr
  have rl := RL.out wr hKr
  by_cases hlt : k < m
  ·have hkn : k < M.n := by rw [HM.out]; exact hlt
   have HKN : Hid (k < M.n) := hkn
   have ra := (RD.out wr hKr).assigned (k : Int)
   rw [asgI_in hkn] at ra
   clear hKr hkn hCr
   go_upto_region 10 with (go_at_call 19; refine rl.mono ?_; rintro e1 w3 ⟨rfl, hw3⟩; replace hw3 := hw3.symm; subst hw3)
   clear rl
   go_wp2_with fail
   refine ra.mono ?_
   rintro e u1 ⟨ka, kc, rfl, hKO, hk1⟩
   have hNw : N < wr.heap.size := by obtain ⟨cur, hb, _⟩ := HCR.out; exact lt_block hb
   have HROW : Hid (IntsAt (fun g => g < u1.heap.size /\ g ≠ N) u1 ka (asgL M R G k)) := hKO.intsAt fun g hg => ⟨(hKO.out hg).2, fun e => (hKO.out hg).1 (by rw [e]; exact hNw)⟩
   have HK1 : Hid (Kept (fun k => k < W.heap.size) W u1) := HKR.out.trans (hk1.mono fun k h => Nat.lt_of_lt_of_le h HKR.out.size)
   have HC1 : Hid (Cn u1 N m fun x => decide ((0 <= findZ M R x /\ findZ M R x < (k : Int)) \/ x ∈ (asgL M R G k).take 0)) := by
    have e : (fun x => decide ((0 <= findZ M R x /\ findZ M R x < (k : Int)) \/ x ∈ (asgL M R G k).take 0)) = fun x => decide (0 <= findZ M R x /\ findZ M R x < (k : Int)) := by
     funext x
     simp
    rw [e]
    exact HCR.out.kept (hk1.block N hNw)
   obtain ⟨fl, hfl⟩ : ∃ fl, (asgL M R G k).length = fl := ⟨_, rfl⟩
   have HFL : Hid ((asgL M R G k).length = fl) := hfl
   have hfl9 : fl <= 300 := by
    have h1 := nodup_le M.n _ (HI.out.asg_nd (G := G) HKN.out) (fun x hx => HI.out.asg_lt HKN.out hx)
    rw [HM.out] at h1
    omega
   rw [hfl]
   clear ra hKO hk1 hfl HCR hNw
   go_upto_region 12 with fail
   go_loopg [8] fl (fun gh v8 wr => ∃ j : Nat, gh = fl - j /\ j <= fl /\ v8 = .int .i64 (j : Int) /\ Kept (fun k => k < u1.heap.size /\ k ≠ N) u1 wr /\ Cn wr N m fun x => decide ((0 <= findZ M R x /\ findZ M R x < (k : Int)) \/ x ∈ (asgL M R G k).take j))
   case atStart => exact ⟨0, rfl, Nat.zero_le _, rfl, Kept.refl _ _, HC1.out⟩
   case round =>
    clear HC1
    obtain ⟨j, hgj, hj, rfl, hKj, hCj⟩ := hrel
    have kW : Kept (fun k => k < W.heap.size) W wr := HK1.out.trans (hKj.mono fun k h => ⟨Nat.lt_of_lt_of_le h HK1.out.size, by have := HN.out; omega⟩)
    have HKJW : Hid (Kept (fun k => k < W.heap.size) W wr) := kW
    have HKJ : Hid (Kept (fun k => k < u1.heap.size /\ k ≠ N) u1 wr) := hKj
    by_cases hlt2 : j < fl
    ·have hjl : j < (asgL M R G k).length := by rw [HFL.out]; exact hlt2
     obtain ⟨g, o, rfl, hg, dd⟩ := HROW.out j hjl
     have d' : wr.cell? ⟨g, o + j, none⟩ = some (.int .i64 ((asgL M R G k)[j] : Int)) := (hKj.cell (p := ⟨g, o + j, none⟩) hg).trans dd
     have hmem := List.getElem_mem hjl
     have hnot : (asgL M R G k)[j] ∉ (asgL M R G k).take j := by
      intro hh
      obtain ⟨j', hj', e⟩ := List.getElem_of_mem hh
      rw [List.length_take] at hj'
      rw [List.getElem_take] at e
      exact List.pairwise_iff_getElem.1 (HI.out.asg_nd (G := G) HKN.out) j' j (by omega) hjl (by omega) e
     have htk : (asgL M R G k).take (j + 1) = (asgL M R G k).take j ++ [(asgL M R G k)[j]] := List.take_succ_eq_append_getElem hjl
     obtain ⟨x, hx⟩ : ∃ x, (asgL M R G k)[j] = x := ⟨_, rfl⟩
     rw [hx] at d' hmem hnot htk
     have hxn := HI.out.asg_lt HKN.out hmem
     have hfx := (HI.out.asg HKN.out hxn).1 hmem
     have hxm : x < m := by rw [<- HM.out]; exact hxn
     have hcx := hCj.cell hxm
     have hv0 : decide ((0 <= findZ M R x /\ findZ M R x < (k : Int)) \/ x ∈ (asgL M R G k).take j) = false := decide_eq_false (by rintro (hh | hh); omega; exact hnot hh)
     rw [hv0] at hcx
     have hcx' : wr.cell? ⟨N, x, none⟩ = some (.int .i64 0) := hcx
     have hfz := hCj.fz x
     obtain ⟨Y, hY⟩ : ∃ Y, wr.setCell ⟨N, x, none⟩ (.int .i64 1) = Y := ⟨_, rfl⟩
     have hCY : Cn Y N m fun y => decide ((0 <= findZ M R y /\ findZ M R y < (k : Int)) \/ y ∈ (asgL M R G k).take (j + 1)) := by
      rw [<- hY]
      refine hCj.set hxm fun y hy => ?_
      rw [htk]
      by_cases cy : y = x
      ·rw [if_pos cy]; exact decide_eq_true (.inr (by rw [cy]; simp))
      ·rw [if_neg cy]
       have : (y ∈ (asgL M R G k).take j ++ [x]) ↔ y ∈ (asgL M R G k).take j := by simp [cy]
       simp only [this]
     have kY : Kept (fun k => k ≠ N) wr Y := by rw [<- hY]; exact (Kept.refl _ wr).setCell (p := ⟨N, x, none⟩) (fun hh => hh rfl) _
     have HCY : Hid (Cn Y N m fun y => decide ((0 <= findZ M R y /\ findZ M R y < (k : Int)) \/ y ∈ (asgL M R G k).take (j + 1))) := hCY
     have HKY : Hid (Kept (fun k => k < u1.heap.size /\ k ≠ N) u1 Y) := hKj.trans (kY.mono fun k h => h.2)
     have kWY : Kept (fun k => k < W.heap.size) W Y := kW.trans (kY.mono fun k h => by have := HN.out; omega)
     have dY : Y.cell? ⟨g, o + j, none⟩ = some (.int .i64 (x : Int)) := (kY.cell (p := ⟨g, o + j, none⟩) hg.2).trans d'
     have rf := (RD.out Y kWY).find (x : Int)
     rw [findI_in hxn, hfx] at rf
     have HY : Hid (wr.setCell ⟨N, x, none⟩ (.int .i64 1) = Y) := hY
     clear dd hx hmem hnot htk hxn hfx hcx hv0 hCj hKj kW hY hCY kY kWY
     go_upto_region 15 with fail
     rw [HY.out]
     clear HY d' hcx' hfz
     go_wp2_with fail
     refine rf.mono ?_
     rintro e u3 ⟨rfl, hk3⟩
     have hNY : N < Y.heap.size := by obtain ⟨cur, hb, _⟩ := HCY.out; exact lt_block hb
     have HC3 : Hid (Cn u3 N m fun y => decide ((0 <= findZ M R y /\ findZ M R y < (k : Int)) \/ y ∈ (asgL M R G k).take (j + 1))) := HCY.out.kept (hk3.block N hNY)
     have HK3 : Hid (Kept (fun k => k < u1.heap.size /\ k ≠ N) u1 u3) := HKY.out.trans (hk3.mono fun k h => Nat.lt_of_lt_of_le h.1 HKY.out.size)
     clear rf hk3 dY hNY
     go_wp2
     go_roundg (fl - (j + 1))
     case rel => exact ⟨j + 1, rfl, by omega, by go_num, HK3.out, HC3.out⟩
     case measure => omega
    ·have hjn : fl = j := by omega
     subst hjn
     have HCF : Hid (Cn wr N m fun x => decide (0 <= findZ M R x /\ findZ M R x < ((k + 1 : Nat) : Int))) := by
      have hall : (asgL M R G k).take fl = asgL M R G k := List.take_of_length_le (by rw [HFL.out]; exact Nat.le_refl _)
      rw [hall] at hCj
      obtain ⟨cur, q1, q2, q3⟩ := hCj
      refine ⟨cur, q1, q2, fun x hx => ?_⟩
      rw [q3 x hx]
      have hxn : x < M.n := by rw [HM.out]; exact hx
      have hiff := HI.out.asg HKN.out hxn
      have e : decide ((0 <= findZ M R x /\ findZ M R x < (k : Int)) \/ x ∈ asgL M R G k) = decide (0 <= findZ M R x /\ findZ M R x < ((k + 1 : Nat) : Int)) := by
       apply decide_eq_decide.2
       rw [hiff]
       omega
      exact congrArg (fun b => some (Value.int .i64 (b01 b))) e
     clear hCj hKj kW
     go_wp2
     go_roundg (m - (k + 1))
     case rel => exact ⟨k + 1, rfl, by omega, by go_num, HKJW.out, HCF.out⟩
     case measure => omega
  ·have hkn : k = m := by omega
   subst hkn
   clear hKr hCr
   go_upto_region 18 with (go_at_call 19; refine rl.mono ?_; rintro e1 w3 ⟨rfl, hw3⟩; replace hw3 := hw3.symm; subst hw3)
   clear rl
   obtain ⟨U, hU⟩ : ∃ U, wr = U := ⟨_, rfl⟩
   rw [hU]
   rw [hU] at HKR HCR
   clear hU
   go_loopg [9] k (fun gh v9 wr => ∃ i : Nat, gh = k - i /\ i <= k /\ v9 = .int .i64 (i : Int) /\ Kept (fun k => k < U.heap.size) U wr)
   case atStart => exact ⟨0, rfl, Nat.zero_le _, rfl, Kept.refl _ _⟩
   case round =>
    obtain ⟨i, hgi, hi, rfl, hKi⟩ := hrel
    have kW : Kept (fun k => k < W.heap.size) W wr := HKR.out.trans (hKi.mono fun k h => Nat.lt_of_lt_of_le h HKR.out.size)
    have HKI : Hid (Kept (fun k => k < U.heap.size) U wr) := hKi
    have HKIW : Hid (Kept (fun k => k < W.heap.size) W wr) := kW
    have rl := RL.out wr kW
    by_cases hlt3 : i < k
    ·have hin : i < M.n := by rw [HM.out]; exact hlt3
     have rf := (RD.out wr kW).find (i : Int)
     rw [findI_in hin] at rf
     have hNU : N < U.heap.size := by obtain ⟨cur, hb, _⟩ := HCR.out; exact lt_block hb
     have HCI : Hid (∀ X, Kept (fun k => k < wr.heap.size) wr X -> X.cell? ⟨N, i, none⟩ = some (.int .i64 (b01 (decide (0 <= findZ M R i /\ findZ M R i < (k : Int)))))) := fun X hX => (hX.cell (p := ⟨N, i, none⟩) (Nat.lt_of_lt_of_le hNU hKi.size)).trans ((hKi.cell (p := ⟨N, i, none⟩) hNU).trans (HCR.out.cell hlt3))
     have hcase : findZ M R i = -1 \/ ∃ s : Nat, s < k /\ findZ M R i = (s : Int) := by
      rcases HI.out.findC hin with ⟨e, _⟩ | ⟨_, _, _, _, _, _, _, _, _⟩ | ⟨_, _, _, _, _, _, _, _, _⟩
      ·exact .inl e
      all_goals
       by_cases cz : findZ M R i = -1
       ·exact .inl cz
       ·have hup : ∃ s : Nat, findZ M R i = (s : Int) := HI.out.find_nat hin cz
        obtain ⟨s, hs⟩ := hup
        exact .inr ⟨s, by rw [<- HM.out]; exact (HI.out.find_slot hin hs).1, hs⟩
     clear hKi kW hin hNU
     rcases hcase with hz | ⟨s, hsk, hz⟩
     ·rw [hz] at rf
      have HC0 : Hid (∀ X, Kept (fun k => k < wr.heap.size) wr X -> X.cell? ⟨N, i, none⟩ = some (.int .i64 0)) := fun X hX => by have := HCI.out X hX; rw [hz] at this; exact this
      have e0 : decide ((-1 : Int) >= 0) = false := by decide
      clear hz HCI
      go_upto_region 21 with (go_at_call 19; refine rl.mono ?_; rintro e1 w3 ⟨rfl, hw3⟩; replace hw3 := hw3.symm; subst hw3)
      clear rl
      go_wp2_with fail
      refine rf.mono ?_
      rintro e u5 ⟨rfl, hk5⟩
      have cN := HC0.out u5 hk5
      have HK5 : Hid (Kept (fun k => k < U.heap.size) U u5) := HKI.out.trans (hk5.mono fun k h => Nat.lt_of_lt_of_le h HKI.out.size)
      clear rf hk5
      go_wp2
      go_roundg (k - (i + 1))
      case rel => exact ⟨i + 1, rfl, by omega, by go_num, HK5.out⟩
      case measure => omega
     ·rw [hz] at rf
      have HC0 : Hid (∀ X, Kept (fun k => k < wr.heap.size) wr X -> X.cell? ⟨N, i, none⟩ = some (.int .i64 1)) := fun X hX => by
       have := HCI.out X hX
       rw [hz, decide_eq_true (by omega : 0 <= (s : Int) /\ (s : Int) < (k : Int))] at this
       exact this
      have e0 : decide ((s : Int) >= 0) = true := decide_eq_true (by omega)
      clear hz HCI
      go_upto_region 21 with (go_at_call 19; refine rl.mono ?_; rintro e1 w3 ⟨rfl, hw3⟩; replace hw3 := hw3.symm; subst hw3)
      clear rl
      go_wp2_with fail
      refine rf.mono ?_
      rintro e u5 ⟨rfl, hk5⟩
      have cN := HC0.out u5 hk5
      have HK5 : Hid (Kept (fun k => k < U.heap.size) U u5) := HKI.out.trans (hk5.mono fun k h => Nat.lt_of_lt_of_le h HKI.out.size)
      clear rf hk5
      go_wp2
      go_roundg (k - (i + 1))
      case rel => exact ⟨i + 1, rfl, by omega, by go_num, HK5.out⟩
      case measure => omega
    ·have hin : k = i := by omega
     subst hin
     clear hKi kW
     go_wp2_with (go_at_call 19; refine rl.mono ?_; rintro e1 w3 ⟨rfl, hw3⟩; replace hw3 := hw3.symm; subst hw3)
     go_ret
     exact ⟨rfl, HKW.out.trans (HKIW.out.mono fun k h => Nat.lt_of_lt_of_le h HKW.out.size)⟩
theorem sonce_no (a : Option Addr) (n c : Nat) (w : World) (rh : Calls Tryz.prog 16 #[.slice a n c] w fun e w' => e = .returned (.bool true) /\ Kept (fun k => k < w.heap.size) w w') :
  Calls Tryz.prog 4 #[.slice a n c] w fun e w' => e = .returned (.bool true) /\ Kept (fun k => k < w.heap.size) w w' := by
 go_enter Tryz.func4, Tryz.ntmps4
 go_wp2_with fail
 refine rh.mono ?_
 rintro e w1 ⟨rfl, k1⟩
 have rk0 := sknown_any w1
 clear rh
 go_wp2_with (go_at_call 17; refine rk0.mono ?_; rintro e w2 ⟨rfl, k2⟩)
 go_ret
 exact ⟨rfl, k1.trans (k2.mono fun k h => Nat.lt_of_lt_of_le h k1.size)⟩
end
end Go.Proofs.YtljnjdckhkglfaaGreat
