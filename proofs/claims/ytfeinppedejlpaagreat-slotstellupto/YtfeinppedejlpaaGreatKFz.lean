/-
  SlotsTell: the walk.
-/
import Derived.Test.YtfeinppedejlpaaGreatKFf
import Derived.Test.YtfeinppedejlpaaGreatKFk
namespace Go.Proofs.YtfeinppedejlpaaGreat
open Go.RowKit Go.Sort
set_option linter.unusedVariables false
set_option maxRecDepth 100000
set_option maxHeartbeats 8000000
section
variable {K E : Nat -> Prop} {W : World} {p r : Nat} {M : Dm} {R G : Nat -> List Nat} {rk : Nat -> Nat} {lim : Nat}
theorem Grown.rrZ (h : Grown K E W p r M R G rk lim) (hl : lim <= 100000) {X : World} (hk : Kept (fun k => k < W.heap.size) W X) : ∃ K', Rr K' X r M R G rk := ⟨_, h.two.r.kept hk, h.inv, h.nle hl⟩
theorem Grown.rdZ (h : Grown K E W p r M R G rk lim) (hl : lim <= 100000) {X : World} (hk : Kept (fun k => k < W.heap.size) W X) : Rd (TK K E) X p M R G rk := ⟨h.two.d.kept hk, h.inv, h.nle hl⟩
theorem Rr.find_any {w : World} (h : Rr K w r M R G rk) (z : Int) : Calls Tryz.prog 17 #[.pointer (some ⟨r, 0, none⟩), .int .i64 z] w fun e w' => e = .returned (.int .i64 (zg4 M R z)) /\ Kept (fun k => k < w.heap.size) w w' := by
 by_cases c : z < 0 \/ (M.n : Int) <= z
 ·have hE : zg4 M R z = -1 := by unfold zg4; rw [if_pos c]
  rw [hE]; exact h.find_no c
 ·obtain ⟨i, rfl⟩ : ∃ i : Nat, z = (i : Int) := ⟨z.toNat, by omega⟩
  rw [zga (show i < M.n by omega)]
  exact h.find_in (by omega)
theorem Rr.asg_any {w : World} (h : Rr K w r M R G rk) (z : Int) : Calls Tryz.prog 20 #[.pointer (some ⟨r, 0, none⟩), .int .i64 z] w (Lst w (zkl M R G z)) := by
 by_cases c : z < 0 \/ (M.n : Int) <= z
 ·have hE : zkl M R G z = [] := by unfold zkl; rw [if_pos c]
  rw [hE]; exact h.asg_no c
 ·obtain ⟨i, rfl⟩ : ∃ i : Nat, z = (i : Int) := ⟨z.toNat, by omega⟩
  rw [zdk (show i < M.n by omega)]
  exact h.asg_in (by omega)
theorem Rr.flat_any {w : World} (h : Rr K w r M R G rk) (z : Int) : Calls Tryz.prog 22 #[.pointer (some ⟨r, 0, none⟩), .int .i64 z] w (Lst w (zfg M R G z)) := by
 by_cases c : z < 0 \/ (M.n : Int) <= z
 ·have hE : zfg M R G z = [] := by unfold zfg; rw [if_pos c]
  rw [hE]; exact h.flat_no c
 ·obtain ⟨i, rfl⟩ : ∃ i : Nat, z = (i : Int) := ⟨z.toNat, by omega⟩
  rw [zgb (show i < M.n by omega)]
  exact Rr.flat_at _ i (Nat.lt_succ_self _) (by omega) w h
theorem zq0 (h : Inv M R G rk) (z : Int) : (zkl M R G z).length <= M.n := by
 by_cases c : z < 0 \/ (M.n : Int) <= z
 ·have hE : zkl M R G z = [] := by unfold zkl; rw [if_pos c]
  rw [hE]; exact Nat.zero_le _
 ·obtain ⟨i, rfl⟩ : ∃ i : Nat, z = (i : Int) := ⟨z.toNat, by omega⟩
  rw [zdk (show i < M.n by omega)]
  exact za4 M.n _ (h.asg_nd (by omega)) (fun x hx => h.asg_lt (by omega) hx)
theorem zok (h : Inv M R G rk) (z : Int) : (zfg M R G z).length <= M.n := by
 by_cases c : z < 0 \/ (M.n : Int) <= z
 ·have hE : zfg M R G z = [] := by unfold zfg; rw [if_pos c]
  rw [hE]; exact Nat.zero_le _
 ·obtain ⟨i, rfl⟩ : ∃ i : Nat, z = (i : Int) := ⟨z.toNat, by omega⟩
  rw [zgb (show i < M.n by omega)]
  exact h.flat_len (by omega)
theorem zop (h : Grown K E W p r M R G rk lim) (hl : lim <= 100000) (z : Int) : ∃ v : Int, ∀ X, Kept (fun k => k < W.heap.size) W X ->
  (Calls Tryz.prog 16 #[.pointer (some ⟨p, 0, none⟩), .int .i64 z] X fun e w' => e = .returned (.int .i64 v) /\ Kept (fun k => k < X.heap.size) X w') /\ (Calls Tryz.prog 17 #[.pointer (some ⟨r, 0, none⟩), .int .i64 z] X fun e w' => e = .returned (.int .i64 v) /\ Kept (fun k => k < X.heap.size) X w') :=
 ⟨zg4 M R z, fun X hX => ⟨(h.rdZ hl hX).find z, by obtain ⟨K', hr⟩ := h.rrZ hl hX; exact hr.find_any z⟩⟩
theorem zqf (h : Grown K E W p r M R G rk lim) (hl : lim <= 100000) (z : Int) : ∃ L : List Nat, L.length <= 100000 /\ ∀ X, Kept (fun k => k < W.heap.size) W X ->
  (Calls Tryz.prog 19 #[.pointer (some ⟨p, 0, none⟩), .int .i64 z] X (Lst X L)) /\ (Calls Tryz.prog 20 #[.pointer (some ⟨r, 0, none⟩), .int .i64 z] X (Lst X L)) :=
 ⟨zkl M R G z, Nat.le_trans (zq0 h.inv z) (h.nle hl), fun X hX => ⟨(h.rdZ hl hX).assigned z, by obtain ⟨K', hr⟩ := h.rrZ hl hX; exact hr.asg_any z⟩⟩
theorem zpm (h : Grown K E W p r M R G rk lim) (hl : lim <= 100000) (z : Int) : ∃ L : List Nat, L.length <= 100000 /\ ∀ X, Kept (fun k => k < W.heap.size) W X ->
  (Calls Tryz.prog 21 #[.pointer (some ⟨p, 0, none⟩), .int .i64 z] X (Lst X L)) /\ (Calls Tryz.prog 22 #[.pointer (some ⟨r, 0, none⟩), .int .i64 z] X (Lst X L)) :=
 ⟨zfg M R G z, Nat.le_trans (zok h.inv z) (h.nle hl), fun X hX => ⟨(h.rdZ hl hX).flat z, by obtain ⟨K', hr⟩ := h.rrZ hl hX; exact hr.flat_any z⟩⟩
theorem zmf (h : Grown K E W p r M R G rk lim) (hl : lim <= 100000) (z : Int) : ∃ L : List Nat, L.length <= 100000 /\ ∀ X, Kept (fun k => k < W.heap.size) W X ->
  (Calls Tryz.prog 23 #[.pointer (some ⟨p, 0, none⟩), .int .i64 z] X (Lst X L)) /\ (Calls Tryz.prog 24 #[.pointer (some ⟨r, 0, none⟩), .int .i64 z] X (Lst X L)) :=
 ⟨(trI M.n R z).filter fun k => za9 (M.nd k), Nat.le_trans (List.length_filter_le _ _) (Nat.le_trans (zh2 h.inv.good.only z) (h.nle hl)), fun X hX => ⟨(h.rdZ hl hX).slots z, by obtain ⟨K', hr⟩ := h.rrZ hl hX; exact hr.slots_any z⟩⟩
end
theorem zel {Y : World} {L : List Nat} {a b : Option Addr} {n c d : Nat} (hn : L.length = n) (hl : n <= 100000) (ha : Zad (fun k => k < Y.heap.size) Y a L) (hb : Zad (fun k => k < Y.heap.size) Y b L) :
  Calls Tryz.prog 18 #[.slice a n c, .slice b n d] Y fun e w' => e = .returned (.bool true) /\ Kept (fun k => k < Y.heap.size) Y w' := by
 refine (zby L L a b n n c d hn hn (by omega) (by omega) Y ha hb).mono ?_
 rintro e w' ⟨he, hw⟩
 exact ⟨by rw [he]; simp, hw⟩
theorem ztm (l : List Opx) (n : Nat) (hln : l.length = n) (hnn : n <= 60) (a : Option Addr) (c : Nat) (hok : ∀ o ∈ l, Zhc o) (hb : zcb l <= 6000) (w : World) (h : Zcp (fun k => k < w.heap.size) w a l) :
  Calls Tryz.prog 3 #[.slice a n c] w fun e w' => e = .returned (.bool true) /\ Kept (fun k => k < w.heap.size) w w' := by
 have rh := zk1 l n hln hnn a c (by omega) w h
 rw [decide_eq_false (by omega : ¬ 6000 < zcb l)] at rh
 have RG : Hid (∀ X, Kept (fun k => k < w.heap.size) w X -> Calls Tryz.prog 14 #[.slice a n c] X fun e w' => ∃ p r E M R G rk, e = .returned (.tuple #[.pointer (some ⟨p, 0, none⟩), .pointer (some ⟨r, 0, none⟩)]) /\ Grown (fun k => k < X.heap.size) E w' p r M R G rk 300 /\ Kept (fun k => k < X.heap.size) X w') := fun X hX => zr9 l n hln (by omega) a c hok (by omega) X (h.kept hX fun k hk => ltl hk hX.size)
 clear hln hok hb h hnn
 go_enter Tryz.func3, Tryz.ntmps3
 go_wp2_with fail
 refine rh.mono ?_
 rintro e w1 ⟨rfl, k1⟩
 have HK1 : Hid (Kept (fun k => k < w.heap.size) w w1) := k1
 have rk := zhm w1
 clear rh k1
 go_wp2_with fail
 refine rk.mono ?_
 rintro e w3 ⟨rfl, k3⟩
 have HK3 : Hid (Kept (fun k => k < w.heap.size) w w3) := kt HK1.out k3
 have rg := RG.out w3 HK3.out
 clear rk k3 HK1 RG
 go_wp2_with fail
 refine rg.mono ?_
 rintro e W ⟨p, r, E, M, R, G, rk, rfl, hG, hK4⟩
 have HKW : Hid (Kept (fun k => k < w.heap.size) w W) := kt HK3.out hK4
 obtain ⟨m, hm⟩ : ∃ m, M.n = m := ⟨_, rfl⟩
 have RL : Hid (∀ X, Kept (fun k => k < W.heap.size) W X -> Calls Tryz.prog 15 #[.pointer (some ⟨p, 0, none⟩)] X fun e w' => e = .returned (.int .i64 (m : Int)) /\ w' = X) := fun X hX => by rw [<- hm]; exact hG.len hX
 have BF : Hid _ := fun z => zop hG (by decide) z
 have BA : Hid _ := fun z => zqf hG (by decide) z
 have BB : Hid _ := fun z => zpm hG (by decide) z
 have BC : Hid _ := fun z => zmf hG (by decide) z
 have hm300 : m <= 300 := by have h1 := hG.le; rw [hG.lim, hm] at h1; exact h1
 clear rg hG hK4 HK3 hm
 go_upto_region 7 with fail
 go_loopg [5] (m + 2) (fun gh v wr => ∃ z : Int, gh = (m + 1 - z).toNat /\ -1 <= z /\ z <= m + 1 /\ v = .int .i64 z /\ Kept (fun k => k < W.heap.size) W wr)
 case atStart => exact ⟨-1, by omega, by omega, by omega, rfl, Kept.refl _ _⟩
 case round =>
  obtain ⟨z, hgz, hz1, hz2, rfl, hKr⟩ := hrel
  have rl0 := RL.out wr hKr
  have HGZ : Hid (gk = (m + 1 - z).toNat) := hgz
  have HKR : Hid (Kept (fun k => k < W.heap.size) W wr) := hKr
  clear hgz hKr
  by_cases hlt : z <= m
  ·have i1 : decide (z <= (m : Int)) = true := decide_eq_true hlt
   obtain ⟨v, hF⟩ := BF.out z
   obtain ⟨LA, hLA, hA⟩ := BA.out z
   obtain ⟨LB, hLB, hB⟩ := BB.out z
   obtain ⟨LC, hLC, hC⟩ := BC.out z
   have F1 : Hid _ := hF
   have A1 : Hid _ := hA
   have B1 : Hid _ := hB
   have C1 : Hid _ := hC
   obtain ⟨la, hla⟩ : ∃ n, LA.length = n := ⟨_, rfl⟩
   obtain ⟨lb, hlb⟩ : ∃ n, LB.length = n := ⟨_, rfl⟩
   obtain ⟨lc, hlc⟩ : ∃ n, LC.length = n := ⟨_, rfl⟩
   have HLA : Hid (LA.length = la) := hla
   have HLB : Hid (LB.length = lb) := hlb
   have HLC : Hid (LC.length = lc) := hlc
   rw [hla] at hLA
   rw [hlb] at hLB
   rw [hlc] at hLC
   have HKwr : Hid (Kept (fun k => k < W.heap.size) W wr) := HKR.out
   clear hF hA hB hC hla hlb hlc BF BA BB BC
   go_wp2_with (go_at_call 15; refine rl0.mono ?_; rintro e1 wq ⟨rfl, hwq⟩; replace hwq := hwq.symm; subst hwq)
   clear rl0
   have r := (F1.out wr HKwr.out).1
   refine r.mono ?_
   rintro e wa ⟨rfl, k⟩
   have HKwa : Hid (Kept (fun k => k < W.heap.size) W wa) := kt HKwr.out k
   clear r k HKwr
   have r := (F1.out wa HKwa.out).2
   go_wp2_with fail
   refine r.mono ?_
   rintro e wb ⟨rfl, k⟩
   have HKwb : Hid (Kept (fun k => k < W.heap.size) W wb) := kt HKwa.out k
   clear r k HKwa F1
   have r := (A1.out wb HKwb.out).1
   go_wp2_with fail
   refine r.mono ?_
   rintro e wc ⟨a1, c1, rfl, hO1, k⟩
   rw [HLA.out]
   have HO1 : Hid (Zad (fun k => k < wc.heap.size) wc a1 LA) := hO1.intsAt fun g hg => (hO1.out hg).2
   have HKwc : Hid (Kept (fun k => k < W.heap.size) W wc) := kt HKwb.out k
   clear r k hO1 HKwb
   have r := (A1.out wc HKwc.out).2
   go_wp2_with fail
   refine r.mono ?_
   rintro e wd ⟨a2, c2, rfl, hO2, k⟩
   rw [HLA.out]
   have r3 := zel (c := c1) (d := c2) HLA.out hLA (HO1.out.to (fun i h => ltl h k.size) fun i h => k.block i h) (hO2.intsAt fun g hg => (hO2.out hg).2)
   have HKwd : Hid (Kept (fun k => k < W.heap.size) W wd) := kt HKwc.out k
   clear r k hO2 HO1 HKwc A1
   go_wp2_with fail
   refine r3.mono ?_
   rintro e we ⟨rfl, k⟩
   have HKwe : Hid (Kept (fun k => k < W.heap.size) W we) := kt HKwd.out k
   clear r3 k HKwd
   have r := (B1.out we HKwe.out).1
   go_wp2_with fail
   refine r.mono ?_
   rintro e wf ⟨a1, c1, rfl, hO1, k⟩
   rw [HLB.out]
   have HO1 : Hid (Zad (fun k => k < wf.heap.size) wf a1 LB) := hO1.intsAt fun g hg => (hO1.out hg).2
   have HKwf : Hid (Kept (fun k => k < W.heap.size) W wf) := kt HKwe.out k
   clear r k hO1 HKwe
   have r := (B1.out wf HKwf.out).2
   go_wp2_with fail
   refine r.mono ?_
   rintro e wg ⟨a2, c2, rfl, hO2, k⟩
   rw [HLB.out]
   have r3 := zel (c := c1) (d := c2) HLB.out hLB (HO1.out.to (fun i h => ltl h k.size) fun i h => k.block i h) (hO2.intsAt fun g hg => (hO2.out hg).2)
   have HKwg : Hid (Kept (fun k => k < W.heap.size) W wg) := kt HKwf.out k
   clear r k hO2 HO1 HKwf B1
   go_wp2_with fail
   refine r3.mono ?_
   rintro e wh ⟨rfl, k⟩
   have HKwh : Hid (Kept (fun k => k < W.heap.size) W wh) := kt HKwg.out k
   clear r3 k HKwg
   have r := (C1.out wh HKwh.out).1
   go_wp2_with fail
   refine r.mono ?_
   rintro e wi ⟨a1, c1, rfl, hO1, k⟩
   rw [HLC.out]
   have HO1 : Hid (Zad (fun k => k < wi.heap.size) wi a1 LC) := hO1.intsAt fun g hg => (hO1.out hg).2
   have HKwi : Hid (Kept (fun k => k < W.heap.size) W wi) := kt HKwh.out k
   clear r k hO1 HKwh
   have r := (C1.out wi HKwi.out).2
   go_wp2_with fail
   refine r.mono ?_
   rintro e wj ⟨a2, c2, rfl, hO2, k⟩
   rw [HLC.out]
   have r3 := zel (c := c1) (d := c2) HLC.out hLC (HO1.out.to (fun i h => ltl h k.size) fun i h => k.block i h) (hO2.intsAt fun g hg => (hO2.out hg).2)
   have HKwj : Hid (Kept (fun k => k < W.heap.size) W wj) := kt HKwi.out k
   clear r k hO2 HO1 HKwi C1
   go_wp2_with fail
   refine r3.mono ?_
   rintro e wk ⟨rfl, k⟩
   have HKwk : Hid (Kept (fun k => k < W.heap.size) W wk) := kt HKwj.out k
   clear r3 k HKwj
   go_wp2
   go_roundg (m + 1 - (z + 1)).toNat
   case rel => exact ⟨z + 1, rfl, by omega, by omega, by go_num, HKwk.out⟩
   case measure => have := HGZ.out; omega
  ·have i1 : decide (z <= (m : Int)) = false := decide_eq_false hlt
   go_wp2_with (go_at_call 15; refine rl0.mono ?_; rintro e1 wq ⟨rfl, hwq⟩; replace hwq := hwq.symm; subst hwq)
   go_ret
   exact ⟨rfl, kt HKW.out HKR.out⟩
theorem ztl (a : Option Addr) (n c : Nat) (w : World) (rh : Calls Tryz.prog 12 #[.slice a n c] w fun e w' => e = .returned (.bool true) /\ Kept (fun k => k < w.heap.size) w w') :
  Calls Tryz.prog 3 #[.slice a n c] w fun e w' => e = .returned (.bool true) /\ Kept (fun k => k < w.heap.size) w w' := by
 go_enter Tryz.func3, Tryz.ntmps3
 go_wp2_with fail
 refine rh.mono ?_
 rintro e w1 ⟨rfl, k1⟩
 have HK1 : Hid (Kept (fun k => k < w.heap.size) w w1) := k1
 have rk := zhm w1
 clear rh k1
 go_wp2_with fail
 refine rk.mono ?_
 rintro e w3 ⟨rfl, k3⟩
 have HK3 : Hid (Kept (fun k => k < w.heap.size) w w3) := kt HK1.out k3
 clear rk k3
 go_wp2
 go_ret
 exact ⟨rfl, HK3.out⟩
end Go.Proofs.YtfeinppedejlpaaGreat
