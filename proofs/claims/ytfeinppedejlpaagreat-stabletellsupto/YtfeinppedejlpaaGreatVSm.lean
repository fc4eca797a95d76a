/-
  StableTells: the walk.
-/
import Derived.Test.YtfeinppedejlpaaGreatVSjm
namespace Go.Proofs.YtfeinppedejlpaaGreat
open Go.RowKit Go.Sort
set_option linter.unusedVariables false
set_option maxRecDepth 100000
set_option maxHeartbeats 8000000
theorem zoq (l l' : List Opx) (n n' : Nat) (hln : l.length = n) (hln' : l'.length = n') (hnn : n <= 60) (hnn' : n' <= 60) (a b : Option Addr) (c c' : Nat) (hok : ∀ o ∈ l, Zkj o) (hok' : ∀ o ∈ l', Zkj o) (hb : zcg l <= 6000) (hb' : zcg l' <= 6000) (w : World) (h : Zd6 (fun k => k < w.heap.size) w a l) (h' : Zd6 (fun k => k < w.heap.size) w b l') (x y : Int) :
  Calls Tryz.prog 10 #[.slice a n c, .slice b n' c', .int .i64 x, .int .i64 y] w fun e w' => e = .returned (.bool true) /\ Kept (fun k => k < w.heap.size) w w' := by
 have rh := zdn l n hln hnn a c (by omega) w h
 rw [decide_eq_false (by omega : ¬ 6000 < zcg l)] at rh
 have RH2 : Hid (∀ X, Kept (fun k => k < w.heap.size) w X -> Calls Tryz.prog 63 #[.slice b n' c'] X fun e w' => e = .returned (.bool false) /\ Kept (fun k => k < X.heap.size) X w') := fun X hX => by
  have r := zdn l' n' hln' hnn' b c' (by omega) X (h'.kept hX fun k hk => ltl hk hX.size)
  rw [decide_eq_false (by omega : ¬ 6000 < zcg l')] at r
  exact r
 have RG : Hid (∀ X, Kept (fun k => k < w.heap.size) w X -> Calls Tryz.prog 64 #[.slice a n c] X fun e w' => ∃ p r E M R G rk, e = .returned (.tuple #[.pointer (some ⟨p, 0, none⟩), .pointer (some ⟨r, 0, none⟩)]) /\ Grown (fun k => k < X.heap.size) E w' p r M R G rk 300 /\ Kept (fun k => k < X.heap.size) X w') := fun X hX => zmz l n hln (by omega) a c hok (by omega) X (h.kept hX fun k hk => ltl hk hX.size)
 have RG2 : Hid (∀ X, Kept (fun k => k < w.heap.size) w X -> Calls Tryz.prog 64 #[.slice b n' c'] X fun e w' => ∃ p r E M R G rk, e = .returned (.tuple #[.pointer (some ⟨p, 0, none⟩), .pointer (some ⟨r, 0, none⟩)]) /\ Grown (fun k => k < X.heap.size) E w' p r M R G rk 300 /\ Kept (fun k => k < X.heap.size) X w') := fun X hX => zmz l' n' hln' (by omega) b c' hok' (by omega) X (h'.kept hX fun k hk => ltl hk hX.size)
 clear hln hln' hok hok' hb hb' h h' hnn hnn'
 go_enter Tryz.func10, Tryz.ntmps10
 go_wp2_with fail
 refine rh.mono ?_
 rintro e w1 ⟨rfl, k1⟩
 have q2 := RH2.out w1 k1
 have HK1 : Hid (Kept (fun k => k < w.heap.size) w w1) := k1
 clear rh k1 RH2
 go_wp2_with fail
 refine q2.mono ?_
 rintro e w2 ⟨rfl, k2⟩
 have rk := zdr w2
 have HK2 : Hid (Kept (fun k => k < w.heap.size) w w2) := kt HK1.out k2
 clear q2 k2 HK1
 go_wp2_with fail
 refine rk.mono ?_
 rintro e w3 ⟨rfl, k3⟩
 have HK3 : Hid (Kept (fun k => k < w.heap.size) w w3) := kt HK2.out k3
 have rg := RG.out w3 HK3.out
 clear rk k3 HK2 RG
 go_wp2_with fail
 refine rg.mono ?_
 rintro e w4 ⟨p, r, E, M, R, G, rk, rfl, hG, hK4⟩
 have HK4 : Hid (Kept (fun k => k < w.heap.size) w w4) := kt HK3.out hK4
 have HG : Hid (Grown (fun k => k < w3.heap.size) E w4 p r M R G rk 300) := hG
 have rg2 := RG2.out w4 HK4.out
 clear rg hG hK4 HK3 RG2
 go_wp2_with fail
 refine rg2.mono ?_
 rintro e W ⟨q, s, E', M', R', G', rk', rfl, hG2, hK5⟩
 have hG1 := HG.out.kept hK5
 have HKW : Hid (Kept (fun k => k < w.heap.size) w W) := kt HK4.out hK5
 have ST : Hid (∀ i : Int, ∃ b : Bool, ∀ X, Kept (fun k => k < W.heap.size) W X ->
  (Calls Tryz.prog 65 #[.pointer (some ⟨p, 0, none⟩), .int .i64 i] X fun e w' => e = .returned (.bool b) /\ Kept (fun k => k < X.heap.size) X w') /\
  (Calls Tryz.prog 66 #[.pointer (some ⟨r, 0, none⟩), .int .i64 i] X fun e w' => e = .returned (.bool b) /\ Kept (fun k => k < X.heap.size) X w')) := zix hG1 (by decide)
 have SA : Hid (∀ i j : Int, ∃ b : Bool, ∀ X, Kept (fun k => k < W.heap.size) W X ->
  (Calls Tryz.prog 61 #[.pointer (some ⟨p, 0, none⟩), .int .i64 i, .pointer (some ⟨q, 0, none⟩), .int .i64 j] X fun e w' => e = .returned (.bool b) /\ Kept (fun k => k < X.heap.size) X w') /\
  (Calls Tryz.prog 67 #[.pointer (some ⟨r, 0, none⟩), .int .i64 i, .pointer (some ⟨s, 0, none⟩), .int .i64 j] X fun e w' => e = .returned (.bool b) /\ Kept (fun k => k < X.heap.size) X w')) := zon hG1 hG2 (by decide) (by decide)
 obtain ⟨m, hm⟩ : ∃ m, M.n = m := ⟨_, rfl⟩
 obtain ⟨m', hm'⟩ : ∃ m, M'.n = m := ⟨_, rfl⟩
 have SE : Hid (∀ (i : Int) (X : World), Kept (fun k => k < W.heap.size) W X -> Calls Tryz.prog 61 #[.pointer (some ⟨p, 0, none⟩), .int .i64 i, .pointer (some ⟨p, 0, none⟩), .int .i64 i] X fun e w' => e = .returned (.bool (decide (0 <= i) && decide (i < (m : Int)))) /\ Kept (fun k => k < X.heap.size) X w') := by
  rw [<- hm]; exact zmn hG1 (by decide)
 have RL : Hid (∀ X, Kept (fun k => k < W.heap.size) W X -> Calls Tryz.prog 15 #[.pointer (some ⟨p, 0, none⟩)] X fun e w' => e = .returned (.int .i64 (m : Int)) /\ w' = X) := fun X hX => by rw [<- hm]; exact hG1.len hX
 have RL2 : Hid (∀ X, Kept (fun k => k < W.heap.size) W X -> Calls Tryz.prog 15 #[.pointer (some ⟨q, 0, none⟩)] X fun e w' => e = .returned (.int .i64 (m' : Int)) /\ w' = X) := fun X hX => by rw [<- hm']; exact hG2.len hX
 have hm300 : m <= 300 := by have h1 := hG1.le; rw [hG1.lim, hm] at h1; exact h1
 have hm300' : m' <= 300 := by have h1 := hG2.le; rw [hG2.lim, hm'] at h1; exact h1
 have hm1 : 1 <= m := by rw [<- hm]; exact hG1.inv.core.pos
 have hm1' : 1 <= m' := by rw [<- hm']; exact hG2.inv.core.pos
 clear rg2 hG1 hG2 hK5 HG HK4 hm hm'
 go_wp2_with fail
 go_loopg [13] (m + 2) (fun gh v wr => ∃ z : Int, gh = (m + 1 - z).toNat /\ -1 <= z /\ z <= m + 1 /\ v = .int .i64 z /\ Kept (fun k => k < W.heap.size) W wr)
 case atStart => exact ⟨-1, by omega, by omega, by omega, rfl, Kept.refl _ _⟩
 case round =>
  obtain ⟨z, hgz, hz1, hz2, rfl, hKr⟩ := hrel
  have rl0 := RL.out wr hKr
  have HGZ : Hid (gk = (m + 1 - z).toNat) := hgz
  have HKR : Hid (Kept (fun k => k < W.heap.size) W wr) := hKr
  clear hgz hKr
  by_cases hlt : z <= m
  ·have i1 : decide (z <= (m : Int)) = true := decide_eq_true hlt
   obtain ⟨bb, hB⟩ := ST.out z
   have HB : Hid (∀ X, Kept (fun k => k < W.heap.size) W X ->
    (Calls Tryz.prog 65 #[.pointer (some ⟨p, 0, none⟩), .int .i64 z] X fun e w' => e = .returned (.bool bb) /\ Kept (fun k => k < X.heap.size) X w') /\
    (Calls Tryz.prog 66 #[.pointer (some ⟨r, 0, none⟩), .int .i64 z] X fun e w' => e = .returned (.bool bb) /\ Kept (fun k => k < X.heap.size) X w')) := hB
   have r1 := (hB wr HKR.out).1
   clear hB
   go_wp2_with (go_at_call 15; refine rl0.mono ?_; rintro e1 wq ⟨rfl, hwq⟩; replace hwq := hwq.symm; subst hwq)
   refine r1.mono ?_
   rintro e wa ⟨rfl, ka⟩
   have HKA : Hid (Kept (fun k => k < W.heap.size) W wa) := kt HKR.out ka
   have r2 := (HB.out wa HKA.out).2
   clear r1 ka HB rl0
   go_wp2_with fail
   refine r2.mono ?_
   rintro e wb ⟨rfl, kb⟩
   have HKB : Hid (Kept (fun k => k < W.heap.size) W wb) := kt HKA.out kb
   clear r2 kb HKA HKR
   go_wp2
   go_roundg (m + 1 - (z + 1)).toNat
   case rel => exact ⟨z + 1, rfl, by omega, by omega, by go_num, HKB.out⟩
   case measure => have := HGZ.out; omega
  ·have i1 : decide (z <= (m : Int)) = false := decide_eq_false hlt
   clear HGZ hz1 hz2 hlt ST
   rename World => wz
   have HKZ : Hid (Kept (fun k => k < W.heap.size) W wz) := HKR.out
   clear HKR
   by_cases hx : x <= 1000
   ·have x1 : decide (x > 1000) = false := decide_eq_false (by omega)
    have x2 : decide (1000 < x) = false := decide_eq_false (by omega)
    go_upto_region 12 with (go_at_call 15; refine rl0.mono ?_; rintro e1 wq ⟨rfl, hwq⟩; replace hwq := hwq.symm; subst hwq)
    clear rl0 i1
    obtain ⟨sb, hsb⟩ := SA.out x y
    obtain ⟨p0, hp0⟩ : ∃ b, decide ((0 : Int) <= x) = b := ⟨_, rfl⟩
    obtain ⟨p1, hp1⟩ : ∃ b, decide (x < (m : Int)) = b := ⟨_, rfl⟩
    have SB : Hid (∀ X, Kept (fun k => k < W.heap.size) W X ->
      (Calls Tryz.prog 61 #[.pointer (some ⟨p, 0, none⟩), .int .i64 x, .pointer (some ⟨q, 0, none⟩), .int .i64 y] X fun e w' => e = .returned (.bool sb) /\ Kept (fun k => k < X.heap.size) X w') /\
      (Calls Tryz.prog 67 #[.pointer (some ⟨r, 0, none⟩), .int .i64 x, .pointer (some ⟨s, 0, none⟩), .int .i64 y] X fun e w' => e = .returned (.bool sb) /\ Kept (fun k => k < X.heap.size) X w')) := hsb
    have SS : Hid (∀ X, Kept (fun k => k < W.heap.size) W X -> Calls Tryz.prog 61 #[.pointer (some ⟨p, 0, none⟩), .int .i64 x, .pointer (some ⟨p, 0, none⟩), .int .i64 x] X fun e w' => e = .returned (.bool (p0 && p1)) /\ Kept (fun k => k < X.heap.size) X w') := fun X hX => by
     have r := SE.out x X hX
     rw [hp0, hp1] at r
     exact r
    clear hsb
    cases p0 <;> cases p1
    all_goals
     have r1 := (SB.out wz HKZ.out).1
     go_wp2_with fail
     refine r1.mono ?_
     rintro e wa ⟨rfl, ka⟩
     have HKA : Hid (Kept (fun k => k < W.heap.size) W wa) := kt HKZ.out ka
     have r2 := (SB.out wa HKA.out).2
     clear r1 ka
     go_wp2_with fail
     refine r2.mono ?_
     rintro e wb ⟨rfl, kb⟩
     have HKB : Hid (Kept (fun k => k < W.heap.size) W wb) := kt HKA.out kb
     have r3 := SS.out wb HKB.out
     clear r2 kb HKA
     go_wp2_with fail
     refine r3.mono ?_
     rintro e wc ⟨rfl, kc⟩
     have HKC : Hid (Kept (fun k => k < W.heap.size) W wc) := kt HKB.out kc
     have r4 := RL.out wc HKC.out
     clear r3 kc HKB
     go_wp2_with (refine r4.mono ?_; rintro e wd ⟨rfl, hwd⟩; replace hwd := hwd.symm; subst hwd)
     go_ret
     exact ⟨rfl, kt HKW.out HKC.out⟩
   ·have x1 : decide (x > 1000) = true := decide_eq_true (by omega)
    have x2 : decide (1000 < x) = true := decide_eq_true (by omega)
    obtain ⟨x', hx'⟩ : ∃ t, x.tmod (m : Int) = t := ⟨_, rfl⟩
    obtain ⟨y', hy'⟩ : ∃ t, y.tmod (m' : Int) = t := ⟨_, rfl⟩
    have m0 : ((m : Int) == 0) = false := by rw [beq_eq_false_iff_ne]; omega
    have m0' : ((m' : Int) == 0) = false := by rw [beq_eq_false_iff_ne]; omega
    have m1 : ¬ (m : Int) = 0 := by omega
    have m1' : ¬ (m' : Int) = 0 := by omega
    have m2 : ¬ m = 0 := by omega
    have m2' : ¬ m' = 0 := by omega
    have rq := RL2.out wz HKZ.out
    go_upto_region 15 with (go_at_call 15; refine rl0.mono ?_; rintro e1 wq ⟨rfl, hwq⟩; replace hwq := hwq.symm; subst hwq)
    go_upto_region 16 with (go_at_call 15; refine rl0.mono ?_; rintro e1 wq ⟨rfl, hwq⟩; replace hwq := hwq.symm; subst hwq)
    go_upto_region 17 with (go_at_call 15; refine rq.mono ?_; rintro e1 wq ⟨rfl, hwq⟩; replace hwq := hwq.symm; subst hwq)
    clear rl0 rq i1
    obtain ⟨sb, hsb⟩ := SA.out x' y'
    obtain ⟨p0, hp0⟩ : ∃ b, decide ((0 : Int) <= x') = b := ⟨_, rfl⟩
    obtain ⟨p1, hp1⟩ : ∃ b, decide (x' < (m : Int)) = b := ⟨_, rfl⟩
    have SB : Hid (∀ X, Kept (fun k => k < W.heap.size) W X ->
      (Calls Tryz.prog 61 #[.pointer (some ⟨p, 0, none⟩), .int .i64 x', .pointer (some ⟨q, 0, none⟩), .int .i64 y'] X fun e w' => e = .returned (.bool sb) /\ Kept (fun k => k < X.heap.size) X w') /\
      (Calls Tryz.prog 67 #[.pointer (some ⟨r, 0, none⟩), .int .i64 x', .pointer (some ⟨s, 0, none⟩), .int .i64 y'] X fun e w' => e = .returned (.bool sb) /\ Kept (fun k => k < X.heap.size) X w')) := hsb
    have SS : Hid (∀ X, Kept (fun k => k < W.heap.size) W X -> Calls Tryz.prog 61 #[.pointer (some ⟨p, 0, none⟩), .int .i64 x', .pointer (some ⟨p, 0, none⟩), .int .i64 x'] X fun e w' => e = .returned (.bool (p0 && p1)) /\ Kept (fun k => k < X.heap.size) X w') := fun X hX => by
     have r := SE.out x' X hX
     rw [hp0, hp1] at r
     exact r
    clear hsb
    cases p0 <;> cases p1
    all_goals
     have r1 := (SB.out wz HKZ.out).1
     go_wp2_with fail
     refine r1.mono ?_
     rintro e wa ⟨rfl, ka⟩
     have HKA : Hid (Kept (fun k => k < W.heap.size) W wa) := kt HKZ.out ka
     have r2 := (SB.out wa HKA.out).2
     clear r1 ka
     go_wp2_with fail
     refine r2.mono ?_
     rintro e wb ⟨rfl, kb⟩
     have HKB : Hid (Kept (fun k => k < W.heap.size) W wb) := kt HKA.out kb
     have r3 := SS.out wb HKB.out
     clear r2 kb HKA
     go_wp2_with fail
     refine r3.mono ?_
     rintro e wc ⟨rfl, kc⟩
     have HKC : Hid (Kept (fun k => k < W.heap.size) W wc) := kt HKB.out kc
     have r4 := RL.out wc HKC.out
     clear r3 kc HKB
     go_wp2_with (refine r4.mono ?_; rintro e wd ⟨rfl, hwd⟩; replace hwd := hwd.symm; subst hwd)
     go_ret
     exact ⟨rfl, kt HKW.out HKC.out⟩
end Go.Proofs.YtfeinppedejlpaaGreat
