/-
  FlatTells: the walk.
-/
import Derived.Test.YtfeinppedejlpaaGreatKFv
import Derived.Test.YtfeinppedejlpaaGreatKLo
namespace Go.Proofs.YtfeinppedejlpaaGreat
open Go.RowKit Go.Sort
set_option linter.unusedVariables false
set_option maxRecDepth 100000
set_option maxHeartbeats 8000000
theorem zoa {M : Dm} {R G : Nat -> List Nat} {rk : Nat -> Nat} (h : Inv M R G rk) (z : Int) : (fKI M R G z).length <= M.n := by
 by_cases c : z < 0 \/ (M.n : Int) <= z
 ·have hE : fKI M R G z = [] := by unfold fKI; rw [if_pos c]
  rw [hE]; exact Nat.zero_le _
 ·obtain ⟨i, rfl⟩ : ∃ i : Nat, z = (i : Int) := ⟨z.toNat, by omega⟩
  have hi : i < M.n := by omega
  rw [zex hi]
  exact za4 M.n _ (h.fK_nd hi) (fun x hx => (h.fK_falls i hi x hx).1)
theorem zka {M : Dm} {R G : Nat -> List Nat} {rk : Nat -> Nat} (h : Inv M R G rk) (z : Int) : (trI M.n (fK M R G) z).length <= M.n := by
 by_cases c : z < 0 \/ (M.n : Int) <= z
 ·rw [zfn c]; exact Nat.zero_le _
 ·obtain ⟨i, rfl⟩ : ∃ i : Nat, z = (i : Int) := ⟨z.toNat, by omega⟩
  have hi : i < M.n := by omega
  rw [zdd hi]
  exact h.walk_len hi
section
variable {K E : Nat -> Prop} {W : World} {p r : Nat} {M : Dm} {R G : Nat -> List Nat} {rk : Nat -> Nat} {lim : Nat}
theorem Grown.rr (h : Grown K E W p r M R G rk lim) (hl : lim <= 100000) {X : World} (hk : Kept (fun k => k < W.heap.size) W X) : ∃ K', Rr K' X r M R G rk := ⟨_, h.two.r.kept hk, h.inv, h.nle hl⟩
theorem zn6 (h : Grown K E W p r M R G rk lim) (hl : lim <= 100000) (z : Int) : ∃ L : List Nat, L.length <= 100000 /\ ∀ X, Kept (fun k => k < W.heap.size) W X ->
  (Calls Tryz.prog 45 #[.pointer (some ⟨p, 0, none⟩), .int .i64 z] X (Lst X L)) /\ (Calls Tryz.prog 46 #[.pointer (some ⟨r, 0, none⟩), .int .i64 z] X (Lst X L)) :=
 ⟨fKI M R G z, Nat.le_trans (zoa h.inv z) (h.nle hl), fun X hX => ⟨(h.rd hl hX).kids z, by obtain ⟨K', hr⟩ := h.rr hl hX; exact hr.fkids z⟩⟩
theorem zth (h : Grown K E W p r M R G rk lim) (hl : lim <= 100000) (z : Int) : ∃ v : Int, ∀ X, Kept (fun k => k < W.heap.size) W X ->
  (Calls Tryz.prog 44 #[.pointer (some ⟨p, 0, none⟩), .int .i64 z] X fun e w' => e = .returned (.int .i64 v) /\ Kept (fun k => k < X.heap.size) X w') /\ (Calls Tryz.prog 47 #[.pointer (some ⟨r, 0, none⟩), .int .i64 z] X fun e w' => e = .returned (.int .i64 v) /\ Kept (fun k => k < X.heap.size) X w') :=
 ⟨upI M R G z, fun X hX => ⟨(h.rd hl hX).up z, by obtain ⟨K', hr⟩ := h.rr hl hX; exact hr.fup z⟩⟩
theorem zow (h : Grown K E W p r M R G rk lim) (hl : lim <= 100000) (z : Int) : ∃ L : List Nat, L.length <= 100000 /\ ∀ X, Kept (fun k => k < W.heap.size) W X ->
  (Calls Tryz.prog 42 #[.pointer (some ⟨p, 0, none⟩), .int .i64 z] X (Lst X L)) /\ (Calls Tryz.prog 48 #[.pointer (some ⟨r, 0, none⟩), .int .i64 z] X (Lst X L)) :=
 ⟨trI M.n (fK M R G) z, Nat.le_trans (zka h.inv z) (h.nle hl), fun X hX => ⟨(h.rd hl hX).walk z, by obtain ⟨K', hr⟩ := h.rr hl hX; exact hr.fwalk z⟩⟩
end
theorem zdx {Y : World} {L : List Nat} {a b : Option Addr} {n c d : Nat} (hn : L.length = n) (hl : n <= 100000) (ha : Zad (fun k => k < Y.heap.size) Y a L) (hb : Zad (fun k => k < Y.heap.size) Y b L) :
  Calls Tryz.prog 18 #[.slice a n c, .slice b n d] Y fun e w' => e = .returned (.bool true) /\ Kept (fun k => k < Y.heap.size) Y w' := by
 refine (zby L L a b n n c d hn hn (by omega) (by omega) Y ha hb).mono ?_
 rintro e w' ⟨he, hw⟩
 exact ⟨by rw [he]; simp, hw⟩
theorem ztx (l : List Opx) (n : Nat) (hln : l.length = n) (hnn : n <= 60) (a : Option Addr) (c : Nat) (hok : ∀ o ∈ l, Zhc o) (hb : zcb l <= 6000) (w : World) (h : Zcp (fun k => k < w.heap.size) w a l) :
  Calls Tryz.prog 6 #[.slice a n c] w fun e w' => e = .returned (.bool true) /\ Kept (fun k => k < w.heap.size) w w' := by
 have rh := zgg l n hln hnn a c (by omega) w h
 rw [decide_eq_false (by omega : ¬ 6000 < zcb l)] at rh
 have RG : Hid (∀ X, Kept (fun k => k < w.heap.size) w X -> Calls Tryz.prog 40 #[.slice a n c] X fun e w' => ∃ p r E M R G rk, e = .returned (.tuple #[.pointer (some ⟨p, 0, none⟩), .pointer (some ⟨r, 0, none⟩)]) /\ Grown (fun k => k < X.heap.size) E w' p r M R G rk 300 /\ Kept (fun k => k < X.heap.size) X w') := fun X hX => zs6 l n hln (by omega) a c hok (by omega) X (h.kept hX fun k hk => ltl hk hX.size)
 clear hln hok hb h hnn
 go_enter Tryz.func6, Tryz.ntmps6
 go_wp2_with fail
 refine rh.mono ?_
 rintro e w1 ⟨rfl, k1⟩
 have HK1 : Hid (Kept (fun k => k < w.heap.size) w w1) := k1
 have rk := zdw w1
 clear rh k1
 go_wp2_with fail
 refine rk.mono ?_
 rintro e w3 ⟨rfl, k3⟩
 have HK3 : Hid (Kept (fun k => k < w.heap.size) w w3) := kt HK1.out k3
 have rg := RG.out w3 HK3.out
 clear rk k3 HK1 RG
 go_wp2_with fail
 refine rg.mono ?_
 rintro e W ⟨p, r, E, M, R, G, rk, rfl, hG, hK4⟩
 have HKW : Hid (Kept (fun k => k < w.heap.size) w W) := kt HK3.out hK4
 obtain ⟨m, hm⟩ : ∃ m, M.n = m := ⟨_, rfl⟩
 have RL : Hid (∀ X, Kept (fun k => k < W.heap.size) W X -> Calls Tryz.prog 15 #[.pointer (some ⟨p, 0, none⟩)] X fun e w' => e = .returned (.int .i64 (m : Int)) /\ w' = X) := fun X hX => by rw [<- hm]; exact hG.len hX
 have BK : Hid _ := fun z => zn6 hG (by decide) z
 have BU : Hid _ := fun z => zth hG (by decide) z
 have BW : Hid _ := fun z => zow hG (by decide) z
 have hm300 : m <= 300 := by have h1 := hG.le; rw [hG.lim, hm] at h1; exact h1
 clear rg hG hK4 HK3 hm
 go_upto_region 7 with fail
 go_loopg [5] (m + 2) (fun gh v wr => ∃ z : Int, gh = (m + 1 - z).toNat /\ -1 <= z /\ z <= m + 1 /\ v = .int .i64 z /\ Kept (fun k => k < W.heap.size) W wr)
 case atStart => exact ⟨-1, by omega, by omega, by omega, rfl, Kept.refl _ _⟩
 case round =>
  obtain ⟨z, hgz, hz1, hz2, rfl, hKr⟩ := hrel
  have rl0 := RL.out wr hKr
  have HGZ : Hid (gk = (m + 1 - z).toNat) := hgz
  have HKR : Hid (Kept (fun k => k < W.heap.size) W wr) := hKr
  clear hgz hKr
  by_cases hlt : z <= m
  ·have i1 : decide (z <= (m : Int)) = true := decide_eq_true hlt
   obtain ⟨LK, hLK, hBK⟩ := BK.out z
   obtain ⟨v, hBU⟩ := BU.out z
   obtain ⟨LW, hLW, hBW⟩ := BW.out z
   have r1 := (hBK wr HKR.out).1
   have BK1 : Hid _ := hBK
   have BU1 : Hid _ := hBU
   have BW1 : Hid _ := hBW
   obtain ⟨lk, hlk⟩ : ∃ n, LK.length = n := ⟨_, rfl⟩
   obtain ⟨lw, hlw⟩ : ∃ n, LW.length = n := ⟨_, rfl⟩
   have HLK : Hid (LK.length = lk) := hlk
   have HLW : Hid (LW.length = lw) := hlw
   rw [hlk] at hLK
   rw [hlw] at hLW
   clear hBK hBU hBW hlk hlw
   go_wp2_with (go_at_call 15; refine rl0.mono ?_; rintro e1 wq ⟨rfl, hwq⟩; replace hwq := hwq.symm; subst hwq)
   refine r1.mono ?_
   rintro e wa ⟨a1, c1, rfl, hO1, ka⟩
   rw [HLK.out]
   have HO1 : Hid (Zad (fun k => k < wa.heap.size) wa a1 LK) := hO1.intsAt fun g hg => (hO1.out hg).2
   have HKA : Hid (Kept (fun k => k < W.heap.size) W wa) := kt HKR.out ka
   have r2 := (BK1.out wa HKA.out).2
   clear r1 ka hO1 rl0
   go_wp2_with fail
   refine r2.mono ?_
   rintro e wb ⟨a2, c2, rfl, hO2, kb⟩
   rw [HLK.out]
   have r3 := zdx (c := c1) (d := c2) HLK.out hLK (HO1.out.to (fun k h => ltl h kb.size) fun k h => kb.block k h) (hO2.intsAt fun g hg => (hO2.out hg).2)
   have HKB : Hid (Kept (fun k => k < W.heap.size) W wb) := kt HKA.out kb
   clear r2 kb hO2 HO1 HKA BK1
   go_wp2_with fail
   refine r3.mono ?_
   rintro e wc ⟨rfl, kc⟩
   have HKC : Hid (Kept (fun k => k < W.heap.size) W wc) := kt HKB.out kc
   have r4 := (BU1.out wc HKC.out).1
   clear r3 kc HKB
   go_wp2_with fail
   refine r4.mono ?_
   rintro e wd ⟨rfl, kd⟩
   have HKD : Hid (Kept (fun k => k < W.heap.size) W wd) := kt HKC.out kd
   have r5 := (BU1.out wd HKD.out).2
   clear r4 kd HKC BU1
   go_wp2_with fail
   refine r5.mono ?_
   rintro e we ⟨rfl, ke⟩
   have HKE : Hid (Kept (fun k => k < W.heap.size) W we) := kt HKD.out ke
   have r6 := (BW1.out we HKE.out).1
   clear r5 ke HKD
   go_wp2_with fail
   refine r6.mono ?_
   rintro e wf ⟨a1, c1, rfl, hO1, kf⟩
   rw [HLW.out]
   have HO1 : Hid (Zad (fun k => k < wf.heap.size) wf a1 LW) := hO1.intsAt fun g hg => (hO1.out hg).2
   have HKF : Hid (Kept (fun k => k < W.heap.size) W wf) := kt HKE.out kf
   have r7 := (BW1.out wf HKF.out).2
   clear r6 kf hO1 HKE
   go_wp2_with fail
   refine r7.mono ?_
   rintro e wg ⟨a2, c2, rfl, hO2, kg⟩
   rw [HLW.out]
   have r8 := zdx (c := c1) (d := c2) HLW.out hLW (HO1.out.to (fun k h => ltl h kg.size) fun k h => kg.block k h) (hO2.intsAt fun g hg => (hO2.out hg).2)
   have HKG : Hid (Kept (fun k => k < W.heap.size) W wg) := kt HKF.out kg
   clear r7 kg hO2 HO1 HKF BW1
   go_wp2_with fail
   refine r8.mono ?_
   rintro e wh ⟨rfl, kh⟩
   have HKH : Hid (Kept (fun k => k < W.heap.size) W wh) := kt HKG.out kh
   clear r8 kh HKG
   go_wp2
   go_roundg (m + 1 - (z + 1)).toNat
   case rel => exact ⟨z + 1, rfl, by omega, by omega, by go_num, HKH.out⟩
   case measure => have := HGZ.out; omega
  ·have i1 : decide (z <= (m : Int)) = false := decide_eq_false hlt
   go_wp2_with (go_at_call 15; refine rl0.mono ?_; rintro e1 wq ⟨rfl, hwq⟩; replace hwq := hwq.symm; subst hwq)
   go_ret
   exact ⟨rfl, kt HKW.out HKR.out⟩
theorem zt5 (a : Option Addr) (n c : Nat) (w : World) (rh : Calls Tryz.prog 38 #[.slice a n c] w fun e w' => e = .returned (.bool true) /\ Kept (fun k => k < w.heap.size) w w') :
  Calls Tryz.prog 6 #[.slice a n c] w fun e w' => e = .returned (.bool true) /\ Kept (fun k => k < w.heap.size) w w' := by
 go_enter Tryz.func6, Tryz.ntmps6
 go_wp2_with fail
 refine rh.mono ?_
 rintro e w1 ⟨rfl, k1⟩
 have HK1 : Hid (Kept (fun k => k < w.heap.size) w w1) := k1
 have rk := zdw w1
 clear rh k1
 go_wp2_with fail
 refine rk.mono ?_
 rintro e w3 ⟨rfl, k3⟩
 have HK3 : Hid (Kept (fun k => k < w.heap.size) w w3) := kt HK1.out k3
 clear rk k3
 go_wp2
 go_ret
 exact ⟨rfl, HK3.out⟩
end Go.Proofs.YtfeinppedejlpaaGreat
