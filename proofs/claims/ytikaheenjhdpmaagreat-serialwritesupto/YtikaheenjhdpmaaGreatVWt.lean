/-
  The walk of SerialWrites.
-/
import Derived.Test.YtikaheenjhdpmaaGreatVX5
import Derived.Test.YtikaheenjhdpmaaGreatVRj
import Derived.Test.YtikaheenjhdpmaaGreatVSn
import Derived.Test.YtikaheenjhdpmaaGreatVUg
namespace Go.Proofs.YtikaheenjhdpmaaGreat
open Go.RowKit Go.Sort
set_option linter.unusedVariables false
set_option maxRecDepth 100000
set_option maxHeartbeats 8000000
def zIn (q : Ask) (M : Dm) (R : Nat -> List Nat) (z : Int) : List UInt8 := if 0 <= z /\ z < (M.n : Int) then zb0 q M R (M.n + 1) z.toNat else []
def zsj (q : Ask) (M : Dm) (R : Nat -> List Nat) (z : Int) : List UInt8 := if 0 <= z /\ z < (M.n : Int) then zb1 (zb0 q M R (M.n + 1) z.toNat) (M.nd z.toNat) (zg4 M z.toNat) else []
theorem zno (l : List Opx) (n : Nat) (hln : l.length = n) (hnn : n <= 60) (a : Option Addr) (c : Nat) (hok : ∀ o ∈ l, Zme o) (hb : zcq l <= 6000) (w : World) (h : Zfe (fun k => k < w.heap.size) w a l) (za : Int) (sr : Bool) (la : Option Addr) (rn rc : Nat) (rl : List Int) (hrl : rl.length = rn) (hrn : rn <= 60) (hri : Za8 (fun k => k < w.heap.size) w la rl) :
  Calls Tryz.prog 5 #[.slice a n c, .int .i64 za, .agg #[.bool sr, .slice la rn rc]] w fun e w' => e = .returned (.bool true) /\ Kept (fun k => k < w.heap.size) w w' := by
 obtain ⟨W0, NB, hW0, hNB, hbB, hkB, hzB⟩ := zae w #[.bool sr, .slice la rn rc] 41
 have h0 := h.kept hkB fun k hk => ltl hk hkB.size
 have rh := zdz l n hln hnn a c (by omega) W0 h0
 rw [decide_eq_false (by omega : ¬ 6000 < zcq l)] at rh
 have RG : Hid (∀ X, Kept (fun k => k < W0.heap.size) W0 X -> Calls Tryz.prog 18 #[.slice a n c] X fun e w' => ∃ p r E M R G rk, e = .returned (.tuple #[.pointer (some ⟨p, 0, none⟩), .pointer (some ⟨r, 0, none⟩)]) /\ Grown (fun k => k < X.heap.size) E w' p r M R G rk 300 /\ Kept (fun k => k < X.heap.size) X w') := fun X hX => zsh l n hln (by omega) a c hok (by omega) X (h0.kept hX fun k hk => ltl hk hX.size)
 have HRI : Hid (Za8 (fun k => k < W0.heap.size) W0 la rl) := Za8.kept hri hkB fun g hg => ltl hg hkB.size
 have HRL : Hid (rl.length = rn) := hrl
 have HBB : Hid (W0.heap[NB]? = some (.cells #[.bool sr, .slice la rn rc] 41 (0, 0))) := hbB
 have HNBL : Hid (NB < W0.heap.size) := zac hbB
 have HKB : Hid (Kept (fun k => k < w.heap.size) w W0) := hkB
 have HW0 : Hid (w.alloc (.cells #[.bool sr, .slice la rn rc] 41) = W0) := hW0
 have HNB : Hid (w.heap.size = NB) := hNB
 have OC : Hid (∀ X, Kept (fun k => k < W0.heap.size) W0 X -> X.cell? ⟨NB, 0, none⟩ = some (.bool sr) /\ X.cell? ⟨NB, 1, none⟩ = some (.slice la rn rc)) := fun X hX => by
  have hh : X.heap[NB]? = some (.cells #[.bool sr, .slice la rn rc] 41 (0, 0)) := (hX.block NB HNBL.out).trans HBB.out
  exact ⟨by rw [zaa hh]; rfl, by rw [zaa hh]; rfl⟩
 have OPT : Hid (∀ X, Kept (fun k => k < W0.heap.size) W0 X -> ∃ o : Opt X, o.val = .agg #[.bool sr, .slice la rn rc] /\ o.ask = ⟨sr, zbv rl⟩) := fun X hX => ⟨⟨sr, la, rn, rc, rl, HRL.out, by omega, Za8.kept HRI.out hX fun g hg => ltl hg hX.size⟩, rfl, rfl⟩
 have e60 : decide ((rn : Int) > 60) = false := decide_eq_false (by omega)
 clear hln hok hb h h0 hri hrl hbB hkB hW0 hNB hzB
 go_enter Tryz.func5, Tryz.ntmps5
 go_upto_region 1 with fail
 rw [HW0.out, HNB.out]
 clear HW0 HNB
 go_wp2_with fail
 refine rh.mono ?_
 rintro e w1 ⟨rfl, k1⟩
 obtain ⟨o0, o1⟩ := OC.out w1 k1
 have rk0 := zdt w1
 have HK1 : Hid (Kept (fun k => k < W0.heap.size) W0 w1) := k1
 clear rh k1
 go_wp2_with fail
 refine rk0.mono ?_
 rintro e w2 ⟨rfl, k2⟩
 have k12 : Kept (fun k => k < W0.heap.size) W0 w2 := HK1.out.trans (k2.mono fun k h => ltl h HK1.out.size)
 have rg := RG.out w2 k12
 have HK12 : Hid (Kept (fun k => k < W0.heap.size) W0 w2) := k12
 clear rk0 k2 k12 RG HK1 o0 o1 e60
 go_wp2_with fail
 refine rg.mono ?_
 rintro e W ⟨p, r, E, M, R, G, rk, rfl, hG, hK⟩
 have HKW : Hid (Kept (fun k => k < W0.heap.size) W0 W) := HK12.out.trans (hK.mono fun k h => ltl h HK12.out.size)
 obtain ⟨m, hm⟩ : ∃ m, M.n = m := ⟨_, rfl⟩
 have HM : Hid (M.n = m) := hm
 have hm300 : m <= 300 := by have h1 := hG.le; rw [hG.lim, hm] at h1; exact h1
 have hm1 : 1 <= m := by rw [<- hm]; exact hG.inv.core.pos
 have rl0 : Calls Tryz.prog 12 #[.pointer (some ⟨p, 0, none⟩)] W fun e w' => e = .returned (.int .i64 (m : Int)) /\ w' = W := by rw [<- hm]; exact hG.len (Kept.refl _ _)
 have HI : Hid (Inv M R G rk) := hG.inv
 have HG2 : Hid (Two (fun k => k < w2.heap.size) E W p r M R G) := hG.two
 have HFN : Hid (M.n <= 100000) := by show M.n <= 100000; omega
 obtain ⟨g, nc, hRE0⟩ := hG.two.r.at14
 have HRE : Hid (RE W r M R g nc) := fun i hi => by
  obtain ⟨aa, ac, ka, kc, -, h⟩ := hRE0 i hi
  exact ⟨aa, ac, ka, kc, h⟩
 clear rg hG hK hm hRE0
 go_upto_region 6 with fail
 go_upto_if 31 with fail
 go_cut [1] (fun v wx => ∃ z : Int, v = .int .i64 z /\ wx = W)
 case first =>
  by_cases c1 : za > 1000
  ·have d1 : decide (za > 1000) = true := decide_eq_true c1
   have d2 : decide ((1000 : Int) < za) = true := decide_eq_true c1
   have hm0 : ((m : Int) == 0) = false := by simp; omega
   go_wp2_with (go_at_call 12; refine rl0.mono ?_; rintro e1 w3 ⟨rfl, hw3⟩; replace hw3 := hw3.symm; subst hw3)
   go_meet
   case rel => exact ⟨_, rfl, rfl⟩
  ·have d1 : decide (za > 1000) = false := decide_eq_false c1
   have d2 : decide ((1000 : Int) < za) = false := decide_eq_false c1
   clear rl0
   go_wp2_with fail
   go_meet
   case rel => exact ⟨_, rfl, rfl⟩
 case rest =>
 obtain ⟨z0, rfl, hw⟩ := hcut
 subst hw
 clear rl0
 obtain ⟨q, hq⟩ : ∃ q : Ask, ⟨sr, zbv rl⟩ = q := ⟨_, rfl⟩
 have HQ : Hid ((⟨sr, zbv rl⟩ : Ask) = q) := hq
 have HDN : Hid (∀ i, i < M.n -> dn M.n rk i < M.n + 1) := fun i hi => Nat.lt_succ_of_le (zr3 M.n rk i)
 have HPOS : Hid (0 < M.n) := by show 0 < M.n; rw [HM.out]; omega
 clear hq
 rename World => W
 have CI : Hid (∀ z X, Kept (fun k => k < W.heap.size) W X -> Calls Tryz.prog 21 #[.pointer (some ⟨p, 0, none⟩), .int .i64 z, .agg #[.bool sr, .slice la rn rc]] X fun e w' => e = .returned (.string ⟨(zIn q M R z).toArray⟩) /\ Kept (fun k => k < X.heap.size) X w') := fun z X hX => by
  by_cases c1 : 0 <= z /\ z < (M.n : Int)
  ·obtain ⟨i, rfl⟩ : ∃ i : Nat, z = (i : Int) := ⟨z.toNat, by omega⟩
   have hi : i < M.n := by omega
   obtain ⟨o, ho, hoa⟩ := OPT.out X (HKW.out.trans (hX.mono fun k h => ltl h HKW.out.size))
   have r1 := zlc HI.out HFN.out hi (M.n + 1) (HDN.out i hi) X (HG2.out.d.kept hX) o
   rw [ho, hoa, HQ.out] at r1
   unfold zIn
   rw [if_pos c1, Int.toNat_natCast]
   exact r1
  ·unfold zIn
   rw [if_neg c1]
   exact zjf (by omega) HFN.out X (HG2.out.d.kept hX) sr la rn rc
 have CO : Hid (∀ z X, Kept (fun k => k < W.heap.size) W X -> Calls Tryz.prog 23 #[.pointer (some ⟨p, 0, none⟩), .int .i64 z, .agg #[.bool sr, .slice la rn rc]] X fun e w' => e = .returned (.string ⟨(zsj q M R z).toArray⟩) /\ Kept (fun k => k < X.heap.size) X w') := fun z X hX => by
  by_cases c1 : 0 <= z /\ z < (M.n : Int)
  ·obtain ⟨i, rfl⟩ : ∃ i : Nat, z = (i : Int) := ⟨z.toNat, by omega⟩
   have hi : i < M.n := by omega
   obtain ⟨o, ho, hoa⟩ := OPT.out X (HKW.out.trans (hX.mono fun k h => ltl h HKW.out.size))
   have r1 := zl2 HI.out HFN.out hi (M.n + 1) (HDN.out i hi) X (HG2.out.d.kept hX) o
   rw [ho, hoa, HQ.out] at r1
   unfold zsj
   rw [if_pos c1, Int.toNat_natCast]
   exact r1
  ·unfold zsj
   rw [if_neg c1]
   exact zjc (by omega) HFN.out X (HG2.out.d.kept hX) sr la rn rc
 have O0 : Hid (Op0 W sr la rn rl) := ⟨HRL.out, by omega, Za8.kept HRI.out HKW.out fun g hg => ltl hg HKW.out.size⟩
 have CRI : Hid (∀ z X, Kept (fun k => k < W.heap.size) W X -> Calls Tryz.prog 22 #[.pointer (some ⟨r, 0, none⟩), .int .i64 z, .agg #[.bool sr, .slice la rn rc]] X fun e w' => e = .returned (.string ⟨(zIn q M R z).toArray⟩) /\ Kept (fun k => k < X.heap.size) X w') := fun z X hX => by
  by_cases c1 : 0 <= z /\ z < (M.n : Int)
  ·obtain ⟨i, rfl⟩ : ∃ i : Nat, z = (i : Int) := ⟨z.toNat, by omega⟩
   have hi : i < M.n := by omega
   have r1 := zf9 (rc := rc) HI.out HRE.out HFN.out O0.out (M.n + 1) i hi (HDN.out i hi) X hX
   rw [HQ.out] at r1
   unfold zIn
   rw [if_pos c1, Int.toNat_natCast]
   exact r1
  ·unfold zIn
   rw [if_neg c1]
   exact zji HRE.out HPOS.out HFN.out (by omega) X hX
 have CRO : Hid (∀ z X, Kept (fun k => k < W.heap.size) W X -> Calls Tryz.prog 19 #[.pointer (some ⟨r, 0, none⟩), .int .i64 z, .agg #[.bool sr, .slice la rn rc]] X fun e w' => e = .returned (.string ⟨(zsj q M R z).toArray⟩) /\ Kept (fun k => k < X.heap.size) X w') := fun z X hX => by
  by_cases c1 : 0 <= z /\ z < (M.n : Int)
  ·obtain ⟨i, rfl⟩ : ∃ i : Nat, z = (i : Int) := ⟨z.toNat, by omega⟩
   have hi : i < M.n := by omega
   have r1 := zml (rc := rc) HI.out HRE.out HFN.out O0.out (M.n + 1) i hi (HDN.out i hi) X hX
   rw [HQ.out] at r1
   unfold zsj
   rw [if_pos c1, Int.toNat_natCast]
   exact r1
  ·unfold zsj
   rw [if_neg c1]
   exact zjo HRE.out HPOS.out HFN.out (by omega) X hX
 have HKB2 : Hid (Kept (fun k => k < w.heap.size) w W) := HKB.out.trans (HKW.out.mono fun k h => ltl h HKB.out.size)
 go_wp2_with fail
 go_loopg [9, 1] 2 (fun gm v9 v1 wr => ∃ (j : Nat) (z : Int), gm = 2 - j /\ j <= 2 /\ v9 = .int .i64 (j : Int) /\ v1 = .int .i64 z /\ Kept (fun k => k < W.heap.size) W wr)
 case atStart => exact ⟨0, z0, rfl, Nat.zero_le _, rfl, rfl, Kept.refl _ _⟩
 case round =>
  obtain ⟨j, z, hg, hj, rfl, rfl, hKr⟩ := hrel
  by_cases hlt : j < 2
  ·have hj2 : (j : Int) < 2 := by omega
   have hkg : ∀ dd os, Kept (fun k => k < wr.heap.size) wr (grow (redrawn wr dd) os) := fun dd os => Below.kept (below_regrown wr dd os)
   have hkw : ∀ dd os, Kept (fun k => k < W.heap.size) W (grow (redrawn wr dd) os) := fun dd os => hKr.trans ((hkg dd os).mono fun k h => ltl h hKr.size)
   have ci := fun dd os => Calls.regrown_of (w := wr) (d := dd) (os := os) ((CI.out z _ (hkw dd os)).mono fun e w' h => ⟨h.1, h.2.below⟩)
   have co := fun dd os => Calls.regrown_of (w := wr) (d := dd) (os := os) ((CO.out z _ (hkw dd os)).mono fun e w' h => ⟨h.1, h.2.below⟩)
   have cri := fun dd os => Calls.regrown_of (w := wr) (d := dd) (os := os) ((CRI.out z _ (hkw dd os)).mono fun e w' h => ⟨h.1, h.2.below⟩)
   have cro := fun dd os => Calls.regrown_of (w := wr) (d := dd) (os := os) ((CRO.out z _ (hkw dd os)).mono fun e w' h => ⟨h.1, h.2.below⟩)
   obtain ⟨TI, hTI⟩ : ∃ b : ByteArray, ⟨(zIn q M R z).toArray⟩ = b := ⟨_, rfl⟩
   obtain ⟨TO, hTO⟩ : ∃ b : ByteArray, ⟨(zsj q M R z).toArray⟩ = b := ⟨_, rfl⟩
   rw [hTI] at ci cri
   rw [hTO] at co cro
   obtain ⟨o0, o1⟩ := OC.out wr (HKW.out.trans (hKr.mono fun k h => ltl h HKW.out.size))
   have o0r := fun dd os => cell_regrown o0 dd os
   have o1r := fun dd os => cell_regrown o1 dd os
   have HKr : Hid (Kept (fun k => k < W.heap.size) W wr) := hKr
   clear hKr hkg hkw hTI hTO o0 o1
   go_upto_region 11 with fail
   refine wp_region_quiet_below (by kernel_rfl) (by kernel_rfl) ?_
   repeat (go_big_quiet_step (first | (go_at_call 21; exact ci _ _) | (go_at_call 22; exact cri _ _) | (go_at_call 23; exact co _ _) | (go_at_call 19; exact cro _ _)))
   refine wpQuiet_nil ?_
   intro _ hw'
   obtain ⟨⟨dq, osq⟩, hw''⟩ := hw'
   subst hw''
   clear ci co cri cro o0r o1r
   go_wp2
   go_roundg (2 - (j + 1))
   case rel => exact ⟨j + 1, 0, rfl, by omega, by go_num, rfl, HKr.out.trans ((Below.kept (below_regrown wr dq osq)).mono fun k h => ltl h HKr.out.size)⟩
   case measure => omega
  ·have hje : j = 2 := by omega
   subst hje
   have rs := zqk _ E wr p r M R G rk (HG2.out.kept hKr) HI.out HFN.out
   have HKr : Hid (Kept (fun k => k < w.heap.size) w wr) := HKB2.out.trans (hKr.mono fun k h => ltl h HKB2.out.size)
   clear hKr
   go_upto_region 14 with fail
   go_wp2_with fail
   refine rs.mono ?_
   rintro e w9 ⟨rfl, hK9⟩
   have HK9 : Hid (Kept (fun k => k < w.heap.size) w w9) := HKr.out.trans (hK9.mono fun k h => ltl h HKr.out.size)
   clear rs hK9
   go_wp2
   go_ret
   exact ⟨rfl, HK9.out⟩
end Go.Proofs.YtikaheenjhdpmaaGreat
