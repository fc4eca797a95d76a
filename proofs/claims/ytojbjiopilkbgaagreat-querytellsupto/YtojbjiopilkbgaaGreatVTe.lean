/-
  The walk of QueryTells.
-/
import Derived.Test.YtojbjiopilkbgaaGreatVQk
import Derived.Test.YtojbjiopilkbgaaGreatVQg
import Derived.Test.YtojbjiopilkbgaaGreatVQf
namespace Go.Proofs.YtojbjiopilkbgaaGreat
set_option maxHeartbeats 8000000
set_option maxRecDepth 100000
open Go.RowKit Go.Sort
set_option linter.unusedVariables false
section
variable {M : Dm} {R G : Nat -> List Nat} {rk : Nat -> Nat}
theorem zr1 (h : Only M.n R rk) (S : List UInt8) (z : Int) : (zj0 M R z).filter (fun x => (S == [42]) || decide ((M.nd x).name = S)) = qL M R (nmP S) z := by
 rw [zom h]
 unfold nmP
 by_cases c : S = [42]
 ·rw [if_pos c, c]
  exact List.filter_eq_self.2 fun x _ => rfl
 ·rw [if_neg c, <- zqz]
  refine List.filter_congr fun x _ => ?_
  rw [beq_eq_false_iff_ne.2 c]; rfl
end
structure Both (p r : Nat) (M : Dm) (R : Nat -> List Nat) (S T : ByteArray) (z : Int) (X : World) (v c : Int) (L1 L2 : List Nat) : Prop where
 i1 : Calls Tryz.prog 38 #[.pointer (some ⟨p, 0, none⟩), .int .i64 z, .string T] X fun e w' => e = .returned (.int .i64 v) /\ Kept (fun k => k < X.heap.size) X w'
 i2 : Calls Tryz.prog 39 #[.pointer (some ⟨r, 0, none⟩), .int .i64 z, .string T] X fun e w' => e = .returned (.int .i64 v) /\ Kept (fun k => k < X.heap.size) X w'
 c1 : Calls Tryz.prog 40 #[.pointer (some ⟨p, 0, none⟩), .int .i64 z, .string S] X fun e w' => e = .returned (.int .i64 c) /\ Kept (fun k => k < X.heap.size) X w'
 c2 : Calls Tryz.prog 41 #[.pointer (some ⟨r, 0, none⟩), .int .i64 z, .string S] X fun e w' => e = .returned (.int .i64 c) /\ Kept (fun k => k < X.heap.size) X w'
 n1 : Calls Tryz.prog 43 #[.pointer (some ⟨p, 0, none⟩), .int .i64 z, .string S] X (Lst X L1)
 n2 : Calls Tryz.prog 44 #[.pointer (some ⟨r, 0, none⟩), .int .i64 z, .string S] X (Lst X L1)
 a1 : Calls Tryz.prog 45 #[.pointer (some ⟨p, 0, none⟩), .int .i64 z, .string S, .string T] X (Lst X L2)
 a2 : Calls Tryz.prog 46 #[.pointer (some ⟨r, 0, none⟩), .int .i64 z, .string S, .string T] X (Lst X L2)
theorem zgk {K E : Nat -> Prop} {W : World} {p r : Nat} {M : Dm} {R G : Nat -> List Nat} {rk : Nat -> Nat} {lim : Nat} (hG : Grown K E W p r M R G rk lim) (hl : lim <= 100000) (S T : ByteArray) (z : Int) : ∃ v c L1 L2, L1.length <= M.n /\ L2.length <= M.n /\ ∀ X, Kept (fun k => k < W.heap.size) W X -> Both p r M R S T z X v c L1 L2 := by
 have hn := hG.nle hl
 have hO := hG.inv.good.only
 have hc := fun x hx hk => (hG.inv.core.el x hx hk).2
 obtain ⟨c, hC⟩ := Clo.ex hG.inv.good S.toList z
 refine ⟨idI T.toList (qL M R (zh8 [105, 100] T.toList) z), c, qL M R (nmP S.toList) z, qL M R (zh8 S.toList T.toList) z, zi1 hO _ _, zi1 hO _ _, fun X hX => ?_⟩
 have h2 := hG.two.kept hX
 have b3 := zii h2.r hG.inv hn S z
 rw [zr1 hO] at b3
 have b4 := zfq h2.r hG.inv hn S T z
 rw [zo1 hc hO] at b4
 exact ⟨zgn h2.d hG.inv.good hn T z _ rfl, zmu h2.r hG.inv hn T z _ (zo1 hc hO _ _ _), ze6 h2.d hG.inv.good hn S z c hC, zhv h2.r hG.inv.good hn S z c hC, zd6 h2.d hG.inv.good hn S z, b3, zfx h2.d hG.inv.good hn S T z, b4⟩
theorem zbq {X X1 X2 : World} {L : List Nat} {e1 e2 : Ending} (h1 : Lst X L e1 X1) (h2 : Lst X1 L e2 X2) (hl : L.length <= 1000000) : ∃ ao1 c1 ao2 c2, e1 = .returned (.slice ao1 L.length c1) /\ e2 = .returned (.slice ao2 L.length c2) /\ Kept (fun k => k < X.heap.size) X X2 /\
  Calls Tryz.prog 42 #[.slice ao1 L.length c1, .slice ao2 L.length c2] X2 fun e w' => e = .returned (.bool true) /\ Kept (fun k => k < X2.heap.size) X2 w' := by
 obtain ⟨ao1, c1, rfl, hO1, hk1⟩ := h1
 obtain ⟨ao2, c2, rfl, hO2, hk2⟩ := h2
 have r1 : Zah (fun k => k < X2.heap.size) X2 ao1 L := (hO1.intsAt (F := fun k => k < X1.heap.size) fun g hg => (hO1.out hg).2).to (fun g hg => ltl hg hk2.size) (fun g hg => hk2.block g hg)
 have r2 : Zah (fun k => k < X2.heap.size) X2 ao2 L := hO2.intsAt fun g hg => (hO2.out hg).2
 have rs := zgy L L ao1 ao2 L.length L.length c1 c2 rfl rfl hl hl X2 r1 r2
 rw [decide_eq_true rfl] at rs
 exact ⟨ao1, c1, ao2, c2, rfl, rfl, hk1.trans (hk2.mono fun k h => ltl h hk1.size), rs⟩
theorem zra (l : List Opx) (n : Nat) (hln : l.length = n) (hnn : n <= 60) (a : Option Addr) (c : Nat) (hok : ∀ o ∈ l, Zkz o) (hb : zcd l <= 6000) (w : World) (h : Zfo (fun k => k < w.heap.size) w a l) (kz : Nat) (hkz : kz < 256) (S T : ByteArray) (hS : S.size <= 300) (hT : T.size <= 300) :
  Calls Tryz.prog 8 #[.slice a n c, .int .u8 (kz : Int), .string S, .string T] w fun e w' => e = .returned (.bool true) /\ Kept (fun k => k < w.heap.size) w w' := by
 have s1 : decide ((S.size : Int) > 300) = false := decide_eq_false (by omega)
 have s2 : decide ((T.size : Int) > 300) = false := decide_eq_false (by omega)
 obtain ⟨x3, hx3⟩ : ∃ x, kz % 3 = x := ⟨_, rfl⟩
 obtain ⟨y3, hy3⟩ : ∃ x, kz / 3 = x := ⟨_, rfl⟩
 obtain ⟨x7, hx7⟩ : ∃ x, kz % 7 = x := ⟨_, rfl⟩
 have k3 : (kz : Int).tmod 3 = (x3 : Int) := by rw [<- hx3]; rfl
 have k7 : (kz : Int).tmod 7 = (x7 : Int) := by rw [<- hx7]; rfl
 have kq : (kz : Int).tdiv 3 = (y3 : Int) := by rw [<- hy3]; rfl
 have hx3b : x3 < 3 := by omega
 have hx7b : x7 < 7 := by omega
 have hy3b : y3 < 86 := by omega
 obtain ⟨b3, hb3⟩ : ∃ b, decide (0 < x3) = b := ⟨_, rfl⟩
 obtain ⟨b7, hb7⟩ : ∃ b, ((x7 : Int) == 0) = b := ⟨_, rfl⟩
 have RNM : Hid (∀ X, Calls Tryz.prog 37 #[.int .u8 (y3 : Int)] X fun e w' => e = .returned (.string (zfr (y3 % 10))) /\ Kept (fun j => j < X.heap.size) X w') := fun X => zg4 y3 (by omega) X
 clear hx3 hy3 hx7
 obtain ⟨ky, hky⟩ : ∃ y : Int, (kz : Int) = y := ⟨_, rfl⟩
 have hk0 : 0 <= ky := by omega
 have hk1 : ky <= 255 := by omega
 rw [hky] at k3 k7 kq ⊢
 clear hky hkz
 suffices hmain : ∀ (b3' b7' : Bool), b3 = b3' -> b7 = b7' -> Calls Tryz.prog 8 #[.slice a n c, .int .u8 ky, .string S, .string T] w fun e w' => e = .returned (.bool true) /\ Kept (fun k => k < w.heap.size) w w' from hmain b3 b7 rfl rfl
 intro b3' b7' e3 e7
 rw [e3] at hb3
 rw [e7] at hb7
 clear e3 e7
 obtain ⟨NB, hNB⟩ : ∃ X, zfr (y3 % 10) = X := ⟨_, rfl⟩
 rw [hNB] at RNM
 clear hNB
 cases b3' <;> cases b7'
 ·have rh := zbw l n hln hnn a c (by omega) w h
  rw [decide_eq_false (by omega : ¬ 6000 < zcd l)] at rh
  have RG : Hid (∀ X, Kept (fun k => k < w.heap.size) w X -> Calls Tryz.prog 36 #[.slice a n c] X fun e w' => ∃ p r E M R G rk, e = .returned (.tuple #[.pointer (some ⟨p, 0, none⟩), .pointer (some ⟨r, 0, none⟩)]) /\ Grown (fun k => k < X.heap.size) E w' p r M R G rk 300 /\ Kept (fun k => k < X.heap.size) X w') := fun X hX => zfb l n hln (by omega) a c hok (by omega) X (h.kept hX fun k hk => ltl hk hX.size)
  clear hln hok hb h
  go_enter Tryz.func8, Tryz.ntmps8
  go_wp2_with fail
  refine rh.mono ?_
  rintro e w1 ⟨rfl, k1⟩
  have rk0 := zbf w1
  clear rh
  go_wp2_with fail
  refine rk0.mono ?_
  rintro e w2 ⟨rfl, k2⟩
  have k12 : Kept (fun k => k < w.heap.size) w w2 := k1.trans (k2.mono fun k h => ltl h k1.size)
  have rg := RG.out w2 k12
  have HK12 : Hid (Kept (fun k => k < w.heap.size) w w2) := k12
  clear rk0 k1 k2 k12 RG
  go_wp2_with fail
  refine rg.mono ?_
  rintro e W ⟨p, r, E, M, R, G, rk, rfl, hG, hK⟩
  have HKW : Hid (Kept (fun k => k < w.heap.size) w W) := HK12.out.trans (hK.mono fun k h => ltl h HK12.out.size)
  obtain ⟨m, hm⟩ : ∃ m, M.n = m := ⟨_, rfl⟩
  have HM : Hid (M.n = m) := hm
  have hm300 : m <= 300 := by have h1 := hG.le; rw [hG.lim, hm] at h1; exact h1
  have hm1 : 1 <= m := by rw [<- hm]; exact hG.inv.core.pos
  have hn5 : M.n <= 100000 := by omega
  have rl : ∀ X, Kept (fun k => k < W.heap.size) W X -> Calls Tryz.prog 15 #[.pointer (some ⟨p, 0, none⟩)] X fun e w' => e = .returned (.int .i64 (m : Int)) /\ w' = X := fun X hX => by rw [<- hm]; exact hG.len hX
  have NODE : Hid (∀ i, i < m -> ∀ X, Kept (fun k => k < W.heap.size) W X -> Calls Tryz.prog 23 #[.pointer (some ⟨p, 0, none⟩), .int .i64 (i : Int)] X fun e w' => Told X (M.nd i) (M.pl i).up (R i) e w') := fun i hi X hX => hG.node (by decide) (by rw [hm]; exact hi) hX
  have ALL : Hid (∀ z : Int, ∃ v c L1 L2, L1.length <= 300 /\ L2.length <= 300 /\ ∀ X, Kept (fun k => k < W.heap.size) W X -> Both p r M R S T z X v c L1 L2) := fun z => by
   obtain ⟨v, c, L1, L2, h1, h2, h3⟩ := zgk hG (by decide) S T z
   exact ⟨v, c, L1, L2, by omega, by omega, h3⟩
  have RL : Hid _ := rl
  clear rg hG hK hm NODE rl hn5
  go_upto_region 11 with (refine (RNM.out _).mono ?_; rintro e w3 ⟨rfl, hk3⟩)
  go_loopg [11] (m + 2) (fun gh v wr => ∃ y : Int, gh = (m + 1 - y).toNat /\ -1 <= y /\ y <= m + 1 /\ v = .int .i64 y /\ Kept (fun k => k < W.heap.size) W wr)
  case atStart => first | exact ⟨-1, by omega, by omega, by omega, rfl, hk3⟩ | exact ⟨-1, by omega, by omega, by omega, rfl, Kept.refl _ _⟩
  case round =>
   obtain ⟨y, hgy, hy1, hy2, rfl, hKr⟩ := hrel
   have rl0 := RL.out wr hKr
   have HGY : Hid (gk = (m + 1 - y).toNat) := hgy
   have HKR : Hid (Kept (fun k => k < W.heap.size) W wr) := hKr
   clear hgy hKr
   by_cases hlt : y <= m
   ·have i1 : decide (y <= (m : Int)) = true := decide_eq_true hlt
    obtain ⟨v, cc, L1, L2, hL1, hL2, hB⟩ := ALL.out y
    have HB : Hid (∀ X, Kept (fun k => k < W.heap.size) W X -> Both p r M R S T y X v cc L1 L2) := hB
    have r1 := (hB wr HKR.out).i1
    clear hB
    go_wp2_with (go_at_call 15; refine rl0.mono ?_; rintro e1 w4 ⟨rfl, hw4⟩; replace hw4 := hw4.symm; subst hw4)
    refine r1.mono ?_
    rintro e u1 ⟨rfl, q1⟩
    have K1 : Hid (Kept (fun k => k < W.heap.size) W u1) := HKR.out.trans (q1.mono fun k h => ltl h HKR.out.size)
    have r2 := (HB.out u1 K1.out).i2
    clear r1 q1 rl0
    go_wp2_with fail
    refine r2.mono ?_
    rintro e u2 ⟨rfl, q1⟩
    have K2 : Hid (Kept (fun k => k < W.heap.size) W u2) := K1.out.trans (q1.mono fun k h => ltl h K1.out.size)
    have r3 := (HB.out u2 K2.out).c1
    clear r2 q1 K1
    go_wp2_with fail
    refine r3.mono ?_
    rintro e u3 ⟨rfl, q1⟩
    have K3 : Hid (Kept (fun k => k < W.heap.size) W u3) := K2.out.trans (q1.mono fun k h => ltl h K2.out.size)
    have r4 := (HB.out u3 K3.out).c2
    clear r3 q1 K2
    go_wp2_with fail
    refine r4.mono ?_
    rintro e u4 ⟨rfl, q1⟩
    have K4 : Hid (Kept (fun k => k < W.heap.size) W u4) := K3.out.trans (q1.mono fun k h => ltl h K3.out.size)
    have r5 := (HB.out u4 K4.out).n1
    clear r4 q1 K3
    go_wp2_with fail
    refine r5.mono ?_
    rintro e u5 l5
    obtain ⟨ao5, c5, he5, -, q5⟩ := id l5
    have L5 : Hid (Lst u4 L1 e u5) := l5
    have K5 : Hid (Kept (fun k => k < W.heap.size) W u5) := K4.out.trans (q5.mono fun k h => ltl h K4.out.size)
    subst he5
    have r6 := (HB.out u5 K5.out).n2
    clear r5 l5 q5
    go_wp2_with fail
    refine r6.mono ?_
    rintro e u6 l6
    obtain ⟨ao1, c1, ao2, c2, e1, e2, q6, rs⟩ := zbq L5.out l6 (by omega)
    have K6 : Hid (Kept (fun k => k < W.heap.size) W u6) := K4.out.trans (q6.mono fun k h => ltl h K4.out.size)
    injection e1 with e1
    injection e1 with e1 e1b e1c
    subst e1
    subst e1c
    subst e2
    clear r6 l6 q6 L5 K5 K4 e1b
    go_wp2_with fail
    refine rs.mono ?_
    rintro e u7 ⟨rfl, q1⟩
    have K7 : Hid (Kept (fun k => k < W.heap.size) W u7) := K6.out.trans (q1.mono fun k h => ltl h K6.out.size)
    have r5 := (HB.out u7 K7.out).a1
    clear rs q1 K6
    go_wp2_with fail
    refine r5.mono ?_
    rintro e u8 l5
    obtain ⟨ao8, c8, he8, -, q5⟩ := id l5
    have L5 : Hid (Lst u7 L2 e u8) := l5
    have K8 : Hid (Kept (fun k => k < W.heap.size) W u8) := K7.out.trans (q5.mono fun k h => ltl h K7.out.size)
    subst he8
    have r6 := (HB.out u8 K8.out).a2
    clear r5 l5 q5
    go_wp2_with fail
    refine r6.mono ?_
    rintro e u9 l6
    obtain ⟨ao3, c3, ao4, c4, e1, e2, q6, rs⟩ := zbq L5.out l6 (by omega)
    have K9 : Hid (Kept (fun k => k < W.heap.size) W u9) := K7.out.trans (q6.mono fun k h => ltl h K7.out.size)
    injection e1 with e1
    injection e1 with e1 e1b e1c
    subst e1
    subst e1c
    subst e2
    clear r6 l6 q6 L5 K8 K7 e1b
    go_wp2_with fail
    refine rs.mono ?_
    rintro e u10 ⟨rfl, q1⟩
    have K10 : Hid (Kept (fun k => k < W.heap.size) W u10) := K9.out.trans (q1.mono fun k h => ltl h K9.out.size)
    clear rs q1 K9
    go_wp2
    go_roundg (m + 1 - (y + 1)).toNat
    case rel => exact ⟨y + 1, rfl, by omega, by omega, by go_num, K10.out⟩
    case measure => rw [HGY.out]; omega
   ·have i1 : decide (y <= (m : Int)) = false := decide_eq_false hlt
    go_wp2_with (go_at_call 15; refine rl0.mono ?_; rintro e1 w4 ⟨rfl, hw4⟩; replace hw4 := hw4.symm; subst hw4)
    go_ret
    exact ⟨rfl, HKW.out.trans (HKR.out.mono fun k h => ltl h HKW.out.size)⟩
 ·have rh := zbw l n hln hnn a c (by omega) w h
  rw [decide_eq_false (by omega : ¬ 6000 < zcd l)] at rh
  have RG : Hid (∀ X, Kept (fun k => k < w.heap.size) w X -> Calls Tryz.prog 36 #[.slice a n c] X fun e w' => ∃ p r E M R G rk, e = .returned (.tuple #[.pointer (some ⟨p, 0, none⟩), .pointer (some ⟨r, 0, none⟩)]) /\ Grown (fun k => k < X.heap.size) E w' p r M R G rk 300 /\ Kept (fun k => k < X.heap.size) X w') := fun X hX => zfb l n hln (by omega) a c hok (by omega) X (h.kept hX fun k hk => ltl hk hX.size)
  clear hln hok hb h
  go_enter Tryz.func8, Tryz.ntmps8
  go_wp2_with fail
  refine rh.mono ?_
  rintro e w1 ⟨rfl, k1⟩
  have rk0 := zbf w1
  clear rh
  go_wp2_with fail
  refine rk0.mono ?_
  rintro e w2 ⟨rfl, k2⟩
  have k12 : Kept (fun k => k < w.heap.size) w w2 := k1.trans (k2.mono fun k h => ltl h k1.size)
  have rg := RG.out w2 k12
  have HK12 : Hid (Kept (fun k => k < w.heap.size) w w2) := k12
  clear rk0 k1 k2 k12 RG
  go_wp2_with fail
  refine rg.mono ?_
  rintro e W ⟨p, r, E, M, R, G, rk, rfl, hG, hK⟩
  have HKW : Hid (Kept (fun k => k < w.heap.size) w W) := HK12.out.trans (hK.mono fun k h => ltl h HK12.out.size)
  obtain ⟨m, hm⟩ : ∃ m, M.n = m := ⟨_, rfl⟩
  have HM : Hid (M.n = m) := hm
  have hm300 : m <= 300 := by have h1 := hG.le; rw [hG.lim, hm] at h1; exact h1
  have hm1 : 1 <= m := by rw [<- hm]; exact hG.inv.core.pos
  have hn5 : M.n <= 100000 := by omega
  have rl : ∀ X, Kept (fun k => k < W.heap.size) W X -> Calls Tryz.prog 15 #[.pointer (some ⟨p, 0, none⟩)] X fun e w' => e = .returned (.int .i64 (m : Int)) /\ w' = X := fun X hX => by rw [<- hm]; exact hG.len hX
  have NODE : Hid (∀ i, i < m -> ∀ X, Kept (fun k => k < W.heap.size) W X -> Calls Tryz.prog 23 #[.pointer (some ⟨p, 0, none⟩), .int .i64 (i : Int)] X fun e w' => Told X (M.nd i) (M.pl i).up (R i) e w') := fun i hi X hX => hG.node (by decide) (by rw [hm]; exact hi) hX
  have ALL : Hid (∀ z : Int, ∃ v c L1 L2, L1.length <= 300 /\ L2.length <= 300 /\ ∀ X, Kept (fun k => k < W.heap.size) W X -> Both p r M R ⟨#[42]⟩ T z X v c L1 L2) := fun z => by
   obtain ⟨v, c, L1, L2, h1, h2, h3⟩ := zgk hG (by decide) ⟨#[42]⟩ T z
   exact ⟨v, c, L1, L2, by omega, by omega, h3⟩
  have RL : Hid _ := rl
  clear rg hG hK hm NODE rl hn5
  go_upto_region 11 with (refine (RNM.out _).mono ?_; rintro e w3 ⟨rfl, hk3⟩)
  go_loopg [11] (m + 2) (fun gh v wr => ∃ y : Int, gh = (m + 1 - y).toNat /\ -1 <= y /\ y <= m + 1 /\ v = .int .i64 y /\ Kept (fun k => k < W.heap.size) W wr)
  case atStart => first | exact ⟨-1, by omega, by omega, by omega, rfl, hk3⟩ | exact ⟨-1, by omega, by omega, by omega, rfl, Kept.refl _ _⟩
  case round =>
   obtain ⟨y, hgy, hy1, hy2, rfl, hKr⟩ := hrel
   have rl0 := RL.out wr hKr
   have HGY : Hid (gk = (m + 1 - y).toNat) := hgy
   have HKR : Hid (Kept (fun k => k < W.heap.size) W wr) := hKr
   clear hgy hKr
   by_cases hlt : y <= m
   ·have i1 : decide (y <= (m : Int)) = true := decide_eq_true hlt
    obtain ⟨v, cc, L1, L2, hL1, hL2, hB⟩ := ALL.out y
    have HB : Hid (∀ X, Kept (fun k => k < W.heap.size) W X -> Both p r M R ⟨#[42]⟩ T y X v cc L1 L2) := hB
    have r1 := (hB wr HKR.out).i1
    clear hB
    go_wp2_with (go_at_call 15; refine rl0.mono ?_; rintro e1 w4 ⟨rfl, hw4⟩; replace hw4 := hw4.symm; subst hw4)
    refine r1.mono ?_
    rintro e u1 ⟨rfl, q1⟩
    have K1 : Hid (Kept (fun k => k < W.heap.size) W u1) := HKR.out.trans (q1.mono fun k h => ltl h HKR.out.size)
    have r2 := (HB.out u1 K1.out).i2
    clear r1 q1 rl0
    go_wp2_with fail
    refine r2.mono ?_
    rintro e u2 ⟨rfl, q1⟩
    have K2 : Hid (Kept (fun k => k < W.heap.size) W u2) := K1.out.trans (q1.mono fun k h => ltl h K1.out.size)
    have r3 := (HB.out u2 K2.out).c1
    clear r2 q1 K1
    go_wp2_with fail
    refine r3.mono ?_
    rintro e u3 ⟨rfl, q1⟩
    have K3 : Hid (Kept (fun k => k < W.heap.size) W u3) := K2.out.trans (q1.mono fun k h => ltl h K2.out.size)
    have r4 := (HB.out u3 K3.out).c2
    clear r3 q1 K2
    go_wp2_with fail
    refine r4.mono ?_
    rintro e u4 ⟨rfl, q1⟩
    have K4 : Hid (Kept (fun k => k < W.heap.size) W u4) := K3.out.trans (q1.mono fun k h => ltl h K3.out.size)
    have r5 := (HB.out u4 K4.out).n1
    clear r4 q1 K3
    go_wp2_with fail
    refine r5.mono ?_
    rintro e u5 l5
    obtain ⟨ao5, c5, he5, -, q5⟩ := id l5
    have L5 : Hid (Lst u4 L1 e u5) := l5
    have K5 : Hid (Kept (fun k => k < W.heap.size) W u5) := K4.out.trans (q5.mono fun k h => ltl h K4.out.size)
    subst he5
    have r6 := (HB.out u5 K5.out).n2
    clear r5 l5 q5
    go_wp2_with fail
    refine r6.mono ?_
    rintro e u6 l6
    obtain ⟨ao1, c1, ao2, c2, e1, e2, q6, rs⟩ := zbq L5.out l6 (by omega)
    have K6 : Hid (Kept (fun k => k < W.heap.size) W u6) := K4.out.trans (q6.mono fun k h => ltl h K4.out.size)
    injection e1 with e1
    injection e1 with e1 e1b e1c
    subst e1
    subst e1c
    subst e2
    clear r6 l6 q6 L5 K5 K4 e1b
    go_wp2_with fail
    refine rs.mono ?_
    rintro e u7 ⟨rfl, q1⟩
    have K7 : Hid (Kept (fun k => k < W.heap.size) W u7) := K6.out.trans (q1.mono fun k h => ltl h K6.out.size)
    have r5 := (HB.out u7 K7.out).a1
    clear rs q1 K6
    go_wp2_with fail
    refine r5.mono ?_
    rintro e u8 l5
    obtain ⟨ao8, c8, he8, -, q5⟩ := id l5
    have L5 : Hid (Lst u7 L2 e u8) := l5
    have K8 : Hid (Kept (fun k => k < W.heap.size) W u8) := K7.out.trans (q5.mono fun k h => ltl h K7.out.size)
    subst he8
    have r6 := (HB.out u8 K8.out).a2
    clear r5 l5 q5
    go_wp2_with fail
    refine r6.mono ?_
    rintro e u9 l6
    obtain ⟨ao3, c3, ao4, c4, e1, e2, q6, rs⟩ := zbq L5.out l6 (by omega)
    have K9 : Hid (Kept (fun k => k < W.heap.size) W u9) := K7.out.trans (q6.mono fun k h => ltl h K7.out.size)
    injection e1 with e1
    injection e1 with e1 e1b e1c
    subst e1
    subst e1c
    subst e2
    clear r6 l6 q6 L5 K8 K7 e1b
    go_wp2_with fail
    refine rs.mono ?_
    rintro e u10 ⟨rfl, q1⟩
    have K10 : Hid (Kept (fun k => k < W.heap.size) W u10) := K9.out.trans (q1.mono fun k h => ltl h K9.out.size)
    clear rs q1 K9
    go_wp2
    go_roundg (m + 1 - (y + 1)).toNat
    case rel => exact ⟨y + 1, rfl, by omega, by omega, by go_num, K10.out⟩
    case measure => rw [HGY.out]; omega
   ·have i1 : decide (y <= (m : Int)) = false := decide_eq_false hlt
    go_wp2_with (go_at_call 15; refine rl0.mono ?_; rintro e1 w4 ⟨rfl, hw4⟩; replace hw4 := hw4.symm; subst hw4)
    go_ret
    exact ⟨rfl, HKW.out.trans (HKR.out.mono fun k h => ltl h HKW.out.size)⟩
 ·have rh := zbw l n hln hnn a c (by omega) w h
  rw [decide_eq_false (by omega : ¬ 6000 < zcd l)] at rh
  have RG : Hid (∀ X, Kept (fun k => k < w.heap.size) w X -> Calls Tryz.prog 36 #[.slice a n c] X fun e w' => ∃ p r E M R G rk, e = .returned (.tuple #[.pointer (some ⟨p, 0, none⟩), .pointer (some ⟨r, 0, none⟩)]) /\ Grown (fun k => k < X.heap.size) E w' p r M R G rk 300 /\ Kept (fun k => k < X.heap.size) X w') := fun X hX => zfb l n hln (by omega) a c hok (by omega) X (h.kept hX fun k hk => ltl hk hX.size)
  clear hln hok hb h
  go_enter Tryz.func8, Tryz.ntmps8
  go_wp2_with fail
  refine rh.mono ?_
  rintro e w1 ⟨rfl, k1⟩
  have rk0 := zbf w1
  clear rh
  go_wp2_with fail
  refine rk0.mono ?_
  rintro e w2 ⟨rfl, k2⟩
  have k12 : Kept (fun k => k < w.heap.size) w w2 := k1.trans (k2.mono fun k h => ltl h k1.size)
  have rg := RG.out w2 k12
  have HK12 : Hid (Kept (fun k => k < w.heap.size) w w2) := k12
  clear rk0 k1 k2 k12 RG
  go_wp2_with fail
  refine rg.mono ?_
  rintro e W ⟨p, r, E, M, R, G, rk, rfl, hG, hK⟩
  have HKW : Hid (Kept (fun k => k < w.heap.size) w W) := HK12.out.trans (hK.mono fun k h => ltl h HK12.out.size)
  obtain ⟨m, hm⟩ : ∃ m, M.n = m := ⟨_, rfl⟩
  have HM : Hid (M.n = m) := hm
  have hm300 : m <= 300 := by have h1 := hG.le; rw [hG.lim, hm] at h1; exact h1
  have hm1 : 1 <= m := by rw [<- hm]; exact hG.inv.core.pos
  have hn5 : M.n <= 100000 := by omega
  have rl : ∀ X, Kept (fun k => k < W.heap.size) W X -> Calls Tryz.prog 15 #[.pointer (some ⟨p, 0, none⟩)] X fun e w' => e = .returned (.int .i64 (m : Int)) /\ w' = X := fun X hX => by rw [<- hm]; exact hG.len hX
  have NODE : Hid (∀ i, i < m -> ∀ X, Kept (fun k => k < W.heap.size) W X -> Calls Tryz.prog 23 #[.pointer (some ⟨p, 0, none⟩), .int .i64 (i : Int)] X fun e w' => Told X (M.nd i) (M.pl i).up (R i) e w') := fun i hi X hX => hG.node (by decide) (by rw [hm]; exact hi) hX
  have ALL : Hid (∀ z : Int, ∃ v c L1 L2, L1.length <= 300 /\ L2.length <= 300 /\ ∀ X, Kept (fun k => k < W.heap.size) W X -> Both p r M R NB T z X v c L1 L2) := fun z => by
   obtain ⟨v, c, L1, L2, h1, h2, h3⟩ := zgk hG (by decide) NB T z
   exact ⟨v, c, L1, L2, by omega, by omega, h3⟩
  have RL : Hid _ := rl
  clear rg hG hK hm NODE rl hn5
  go_upto_region 11 with (refine (RNM.out _).mono ?_; rintro e w3 ⟨rfl, hk3⟩)
  go_loopg [11] (m + 2) (fun gh v wr => ∃ y : Int, gh = (m + 1 - y).toNat /\ -1 <= y /\ y <= m + 1 /\ v = .int .i64 y /\ Kept (fun k => k < W.heap.size) W wr)
  case atStart => first | exact ⟨-1, by omega, by omega, by omega, rfl, hk3⟩ | exact ⟨-1, by omega, by omega, by omega, rfl, Kept.refl _ _⟩
  case round =>
   obtain ⟨y, hgy, hy1, hy2, rfl, hKr⟩ := hrel
   have rl0 := RL.out wr hKr
   have HGY : Hid (gk = (m + 1 - y).toNat) := hgy
   have HKR : Hid (Kept (fun k => k < W.heap.size) W wr) := hKr
   clear hgy hKr
   by_cases hlt : y <= m
   ·have i1 : decide (y <= (m : Int)) = true := decide_eq_true hlt
    obtain ⟨v, cc, L1, L2, hL1, hL2, hB⟩ := ALL.out y
    have HB : Hid (∀ X, Kept (fun k => k < W.heap.size) W X -> Both p r M R NB T y X v cc L1 L2) := hB
    have r1 := (hB wr HKR.out).i1
    clear hB
    go_wp2_with (go_at_call 15; refine rl0.mono ?_; rintro e1 w4 ⟨rfl, hw4⟩; replace hw4 := hw4.symm; subst hw4)
    refine r1.mono ?_
    rintro e u1 ⟨rfl, q1⟩
    have K1 : Hid (Kept (fun k => k < W.heap.size) W u1) := HKR.out.trans (q1.mono fun k h => ltl h HKR.out.size)
    have r2 := (HB.out u1 K1.out).i2
    clear r1 q1 rl0
    go_wp2_with fail
    refine r2.mono ?_
    rintro e u2 ⟨rfl, q1⟩
    have K2 : Hid (Kept (fun k => k < W.heap.size) W u2) := K1.out.trans (q1.mono fun k h => ltl h K1.out.size)
    have r3 := (HB.out u2 K2.out).c1
    clear r2 q1 K1
    go_wp2_with fail
    refine r3.mono ?_
    rintro e u3 ⟨rfl, q1⟩
    have K3 : Hid (Kept (fun k => k < W.heap.size) W u3) := K2.out.trans (q1.mono fun k h => ltl h K2.out.size)
    have r4 := (HB.out u3 K3.out).c2
    clear r3 q1 K2
    go_wp2_with fail
    refine r4.mono ?_
    rintro e u4 ⟨rfl, q1⟩
    have K4 : Hid (Kept (fun k => k < W.heap.size) W u4) := K3.out.trans (q1.mono fun k h => ltl h K3.out.size)
    have r5 := (HB.out u4 K4.out).n1
    clear r4 q1 K3
    go_wp2_with fail
    refine r5.mono ?_
    rintro e u5 l5
    obtain ⟨ao5, c5, he5, -, q5⟩ := id l5
    have L5 : Hid (Lst u4 L1 e u5) := l5
    have K5 : Hid (Kept (fun k => k < W.heap.size) W u5) := K4.out.trans (q5.mono fun k h => ltl h K4.out.size)
    subst he5
    have r6 := (HB.out u5 K5.out).n2
    clear r5 l5 q5
    go_wp2_with fail
    refine r6.mono ?_
    rintro e u6 l6
    obtain ⟨ao1, c1, ao2, c2, e1, e2, q6, rs⟩ := zbq L5.out l6 (by omega)
    have K6 : Hid (Kept (fun k => k < W.heap.size) W u6) := K4.out.trans (q6.mono fun k h => ltl h K4.out.size)
    injection e1 with e1
    injection e1 with e1 e1b e1c
    subst e1
    subst e1c
    subst e2
    clear r6 l6 q6 L5 K5 K4 e1b
    go_wp2_with fail
    refine rs.mono ?_
    rintro e u7 ⟨rfl, q1⟩
    have K7 : Hid (Kept (fun k => k < W.heap.size) W u7) := K6.out.trans (q1.mono fun k h => ltl h K6.out.size)
    have r5 := (HB.out u7 K7.out).a1
    clear rs q1 K6
    go_wp2_with fail
    refine r5.mono ?_
    rintro e u8 l5
    obtain ⟨ao8, c8, he8, -, q5⟩ := id l5
    have L5 : Hid (Lst u7 L2 e u8) := l5
    have K8 : Hid (Kept (fun k => k < W.heap.size) W u8) := K7.out.trans (q5.mono fun k h => ltl h K7.out.size)
    subst he8
    have r6 := (HB.out u8 K8.out).a2
    clear r5 l5 q5
    go_wp2_with fail
    refine r6.mono ?_
    rintro e u9 l6
    obtain ⟨ao3, c3, ao4, c4, e1, e2, q6, rs⟩ := zbq L5.out l6 (by omega)
    have K9 : Hid (Kept (fun k => k < W.heap.size) W u9) := K7.out.trans (q6.mono fun k h => ltl h K7.out.size)
    injection e1 with e1
    injection e1 with e1 e1b e1c
    subst e1
    subst e1c
    subst e2
    clear r6 l6 q6 L5 K8 K7 e1b
    go_wp2_with fail
    refine rs.mono ?_
    rintro e u10 ⟨rfl, q1⟩
    have K10 : Hid (Kept (fun k => k < W.heap.size) W u10) := K9.out.trans (q1.mono fun k h => ltl h K9.out.size)
    clear rs q1 K9
    go_wp2
    go_roundg (m + 1 - (y + 1)).toNat
    case rel => exact ⟨y + 1, rfl, by omega, by omega, by go_num, K10.out⟩
    case measure => rw [HGY.out]; omega
   ·have i1 : decide (y <= (m : Int)) = false := decide_eq_false hlt
    go_wp2_with (go_at_call 15; refine rl0.mono ?_; rintro e1 w4 ⟨rfl, hw4⟩; replace hw4 := hw4.symm; subst hw4)
    go_ret
    exact ⟨rfl, HKW.out.trans (HKR.out.mono fun k h => ltl h HKW.out.size)⟩
 ·have rh := zbw l n hln hnn a c (by omega) w h
  rw [decide_eq_false (by omega : ¬ 6000 < zcd l)] at rh
  have RG : Hid (∀ X, Kept (fun k => k < w.heap.size) w X -> Calls Tryz.prog 36 #[.slice a n c] X fun e w' => ∃ p r E M R G rk, e = .returned (.tuple #[.pointer (some ⟨p, 0, none⟩), .pointer (some ⟨r, 0, none⟩)]) /\ Grown (fun k => k < X.heap.size) E w' p r M R G rk 300 /\ Kept (fun k => k < X.heap.size) X w') := fun X hX => zfb l n hln (by omega) a c hok (by omega) X (h.kept hX fun k hk => ltl hk hX.size)
  clear hln hok hb h
  go_enter Tryz.func8, Tryz.ntmps8
  go_wp2_with fail
  refine rh.mono ?_
  rintro e w1 ⟨rfl, k1⟩
  have rk0 := zbf w1
  clear rh
  go_wp2_with fail
  refine rk0.mono ?_
  rintro e w2 ⟨rfl, k2⟩
  have k12 : Kept (fun k => k < w.heap.size) w w2 := k1.trans (k2.mono fun k h => ltl h k1.size)
  have rg := RG.out w2 k12
  have HK12 : Hid (Kept (fun k => k < w.heap.size) w w2) := k12
  clear rk0 k1 k2 k12 RG
  go_wp2_with fail
  refine rg.mono ?_
  rintro e W ⟨p, r, E, M, R, G, rk, rfl, hG, hK⟩
  have HKW : Hid (Kept (fun k => k < w.heap.size) w W) := HK12.out.trans (hK.mono fun k h => ltl h HK12.out.size)
  obtain ⟨m, hm⟩ : ∃ m, M.n = m := ⟨_, rfl⟩
  have HM : Hid (M.n = m) := hm
  have hm300 : m <= 300 := by have h1 := hG.le; rw [hG.lim, hm] at h1; exact h1
  have hm1 : 1 <= m := by rw [<- hm]; exact hG.inv.core.pos
  have hn5 : M.n <= 100000 := by omega
  have rl : ∀ X, Kept (fun k => k < W.heap.size) W X -> Calls Tryz.prog 15 #[.pointer (some ⟨p, 0, none⟩)] X fun e w' => e = .returned (.int .i64 (m : Int)) /\ w' = X := fun X hX => by rw [<- hm]; exact hG.len hX
  have NODE : Hid (∀ i, i < m -> ∀ X, Kept (fun k => k < W.heap.size) W X -> Calls Tryz.prog 23 #[.pointer (some ⟨p, 0, none⟩), .int .i64 (i : Int)] X fun e w' => Told X (M.nd i) (M.pl i).up (R i) e w') := fun i hi X hX => hG.node (by decide) (by rw [hm]; exact hi) hX
  have ALL : Hid (∀ z : Int, ∃ v c L1 L2, L1.length <= 300 /\ L2.length <= 300 /\ ∀ X, Kept (fun k => k < W.heap.size) W X -> Both p r M R ⟨#[42]⟩ T z X v c L1 L2) := fun z => by
   obtain ⟨v, c, L1, L2, h1, h2, h3⟩ := zgk hG (by decide) ⟨#[42]⟩ T z
   exact ⟨v, c, L1, L2, by omega, by omega, h3⟩
  have RL : Hid _ := rl
  clear rg hG hK hm NODE rl hn5
  go_upto_region 11 with (refine (RNM.out _).mono ?_; rintro e w3 ⟨rfl, hk3⟩)
  go_loopg [11] (m + 2) (fun gh v wr => ∃ y : Int, gh = (m + 1 - y).toNat /\ -1 <= y /\ y <= m + 1 /\ v = .int .i64 y /\ Kept (fun k => k < W.heap.size) W wr)
  case atStart => first | exact ⟨-1, by omega, by omega, by omega, rfl, hk3⟩ | exact ⟨-1, by omega, by omega, by omega, rfl, Kept.refl _ _⟩
  case round =>
   obtain ⟨y, hgy, hy1, hy2, rfl, hKr⟩ := hrel
   have rl0 := RL.out wr hKr
   have HGY : Hid (gk = (m + 1 - y).toNat) := hgy
   have HKR : Hid (Kept (fun k => k < W.heap.size) W wr) := hKr
   clear hgy hKr
   by_cases hlt : y <= m
   ·have i1 : decide (y <= (m : Int)) = true := decide_eq_true hlt
    obtain ⟨v, cc, L1, L2, hL1, hL2, hB⟩ := ALL.out y
    have HB : Hid (∀ X, Kept (fun k => k < W.heap.size) W X -> Both p r M R ⟨#[42]⟩ T y X v cc L1 L2) := hB
    have r1 := (hB wr HKR.out).i1
    clear hB
    go_wp2_with (go_at_call 15; refine rl0.mono ?_; rintro e1 w4 ⟨rfl, hw4⟩; replace hw4 := hw4.symm; subst hw4)
    refine r1.mono ?_
    rintro e u1 ⟨rfl, q1⟩
    have K1 : Hid (Kept (fun k => k < W.heap.size) W u1) := HKR.out.trans (q1.mono fun k h => ltl h HKR.out.size)
    have r2 := (HB.out u1 K1.out).i2
    clear r1 q1 rl0
    go_wp2_with fail
    refine r2.mono ?_
    rintro e u2 ⟨rfl, q1⟩
    have K2 : Hid (Kept (fun k => k < W.heap.size) W u2) := K1.out.trans (q1.mono fun k h => ltl h K1.out.size)
    have r3 := (HB.out u2 K2.out).c1
    clear r2 q1 K1
    go_wp2_with fail
    refine r3.mono ?_
    rintro e u3 ⟨rfl, q1⟩
    have K3 : Hid (Kept (fun k => k < W.heap.size) W u3) := K2.out.trans (q1.mono fun k h => ltl h K2.out.size)
    have r4 := (HB.out u3 K3.out).c2
    clear r3 q1 K2
    go_wp2_with fail
    refine r4.mono ?_
    rintro e u4 ⟨rfl, q1⟩
    have K4 : Hid (Kept (fun k => k < W.heap.size) W u4) := K3.out.trans (q1.mono fun k h => ltl h K3.out.size)
    have r5 := (HB.out u4 K4.out).n1
    clear r4 q1 K3
    go_wp2_with fail
    refine r5.mono ?_
    rintro e u5 l5
    obtain ⟨ao5, c5, he5, -, q5⟩ := id l5
    have L5 : Hid (Lst u4 L1 e u5) := l5
    have K5 : Hid (Kept (fun k => k < W.heap.size) W u5) := K4.out.trans (q5.mono fun k h => ltl h K4.out.size)
    subst he5
    have r6 := (HB.out u5 K5.out).n2
    clear r5 l5 q5
    go_wp2_with fail
    refine r6.mono ?_
    rintro e u6 l6
    obtain ⟨ao1, c1, ao2, c2, e1, e2, q6, rs⟩ := zbq L5.out l6 (by omega)
    have K6 : Hid (Kept (fun k => k < W.heap.size) W u6) := K4.out.trans (q6.mono fun k h => ltl h K4.out.size)
    injection e1 with e1
    injection e1 with e1 e1b e1c
    subst e1
    subst e1c
    subst e2
    clear r6 l6 q6 L5 K5 K4 e1b
    go_wp2_with fail
    refine rs.mono ?_
    rintro e u7 ⟨rfl, q1⟩
    have K7 : Hid (Kept (fun k => k < W.heap.size) W u7) := K6.out.trans (q1.mono fun k h => ltl h K6.out.size)
    have r5 := (HB.out u7 K7.out).a1
    clear rs q1 K6
    go_wp2_with fail
    refine r5.mono ?_
    rintro e u8 l5
    obtain ⟨ao8, c8, he8, -, q5⟩ := id l5
    have L5 : Hid (Lst u7 L2 e u8) := l5
    have K8 : Hid (Kept (fun k => k < W.heap.size) W u8) := K7.out.trans (q5.mono fun k h => ltl h K7.out.size)
    subst he8
    have r6 := (HB.out u8 K8.out).a2
    clear r5 l5 q5
    go_wp2_with fail
    refine r6.mono ?_
    rintro e u9 l6
    obtain ⟨ao3, c3, ao4, c4, e1, e2, q6, rs⟩ := zbq L5.out l6 (by omega)
    have K9 : Hid (Kept (fun k => k < W.heap.size) W u9) := K7.out.trans (q6.mono fun k h => ltl h K7.out.size)
    injection e1 with e1
    injection e1 with e1 e1b e1c
    subst e1
    subst e1c
    subst e2
    clear r6 l6 q6 L5 K8 K7 e1b
    go_wp2_with fail
    refine rs.mono ?_
    rintro e u10 ⟨rfl, q1⟩
    have K10 : Hid (Kept (fun k => k < W.heap.size) W u10) := K9.out.trans (q1.mono fun k h => ltl h K9.out.size)
    clear rs q1 K9
    go_wp2
    go_roundg (m + 1 - (y + 1)).toNat
    case rel => exact ⟨y + 1, rfl, by omega, by omega, by go_num, K10.out⟩
    case measure => rw [HGY.out]; omega
   ·have i1 : decide (y <= (m : Int)) = false := decide_eq_false hlt
    go_wp2_with (go_at_call 15; refine rl0.mono ?_; rintro e1 w4 ⟨rfl, hw4⟩; replace hw4 := hw4.symm; subst hw4)
    go_ret
    exact ⟨rfl, HKW.out.trans (HKR.out.mono fun k h => ltl h HKW.out.size)⟩
end Go.Proofs.YtojbjiopilkbgaaGreat
