/-
  The document's own Insert: where it does not fit.
  The document's own Insert: one node.
  The document's own Insert: what a fragment holds.
  The program's Limit, Remove, Write; what its Insert refuses.
-/
import Derived.Test.YtbhfnbplbkncmaaGreatZ25
import Derived.Test.YtbhfnbplbkncmaaGreatZ08
namespace Go.Proofs.YtbhfnbplbkncmaaGreat
open Go.RowKit Go.Sort
set_option linter.unusedVariables false
set_option maxRecDepth 20000 in
set_option maxHeartbeats 1000000 in
theorem rins_bad0 (K : Nat → Prop) (p up i : Nat) (M : Dm) (R G : Nat → List Nat) (rk : Nat → Nat) (w : World) (h : RX K w p M R G) (ha : Acy M rk) (hu : up < M.n) (hi : i < M.n) (hn : M.n ≤ 1000000) (hge : ∀ k, k < M.n → (M.pl k).up = -1 ∨ 0 ≤ (M.pl k).up) (fb : Bool) (hfb : fb = true ↔ RFits M up i) (hf : fb = false) :
    Calls Tryz.prog 89 #[.pointer (some ⟨p, 0, none⟩), .int .i64 (up : Int), .int .i64 (i : Int), .int .i64 (-1)] w fun e w' => e = .returned (.int .i64 81) ∧ RX K w' p M R G ∧ Kept K w w' := by
  have tu := rthere_any K p M R G (up : Int) w h
  rw [there_yes hu] at tu
  have ti := rthere_any K p M R G (i : Int) w h
  rw [there_yes hi] at ti
  have rf : Calls Tryz.prog 149 #[.pointer (some ⟨p, 0, none⟩), .int .i64 (up : Int), .int .i64 (i : Int)] w fun e w' => e = .returned (.bool fb) ∧ Kept (fun k => k < w.heap.size) w w' :=
    (rfits_go K p up i M R G rk w h ha hu hi hn hge _ rfl _ rfl).mono fun e w' ⟨hy, hk⟩ => by
      obtain ⟨b, he, hb⟩ := hy
      exact ⟨by rw [he, Bool.eq_iff_iff.2 (hb.trans hfb.symm)], hk⟩
  have HM : Hid (∀ w', Kept (fun k => k < w.heap.size) w w' → RX K w' p M R G ∧ Kept K w w') := fun w' hk => ⟨h.kept hk, hk.mono h.lt⟩
  subst hf
  clear h ha hge hfb
  go_enter Tryz.func89, Tryz.ntmps89
  go_wp2_with fail
  refine tu.mono ?_
  rintro e1 w3 ⟨rfl, hw3⟩
  replace hw3 := hw3.symm
  subst hw3
  go_wp2_with fail
  refine ti.mono ?_
  rintro e1 w3 ⟨rfl, hw3⟩
  replace hw3 := hw3.symm
  subst hw3
  go_wp2_with fail
  refine rf.mono ?_
  rintro e1 w4 ⟨rfl, hk4⟩
  obtain ⟨hX4, hK4⟩ := HM.out w4 hk4
  have HX4 : Hid (RX K w4 p M R G) := hX4
  have HK4 : Hid (Kept K w w4) := hK4
  clear hX4 hK4 rf tu ti HM hk4
  go_wp2
  go_ret
  exact ⟨rfl, HX4.out, HK4.out⟩
set_option maxRecDepth 20000 in
set_option maxHeartbeats 1000000 in
theorem rins_bad1 (K : Nat → Prop) (p up i : Nat) (M : Dm) (R G : Nat → List Nat) (rk : Nat → Nat) (w : World) (h : RX K w p M R G) (ha : Acy M rk) (hu : up < M.n) (hi : i < M.n) (hn : M.n ≤ 1000000) (hge : ∀ k, k < M.n → (M.pl k).up = -1 ∨ 0 ≤ (M.pl k).up) (fb : Bool) (hfb : fb = true ↔ RFits M up i) (hf : fb = false) (b : Nat) (hb : b < M.n) :
    Calls Tryz.prog 89 #[.pointer (some ⟨p, 0, none⟩), .int .i64 (up : Int), .int .i64 (i : Int), .int .i64 (b : Int)] w fun e w' => e = .returned (.int .i64 81) ∧ RX K w' p M R G ∧ Kept K w w' := by
  have tu := rthere_any K p M R G (up : Int) w h
  rw [there_yes hu] at tu
  have ti := rthere_any K p M R G (i : Int) w h
  rw [there_yes hi] at ti
  have rf : Calls Tryz.prog 149 #[.pointer (some ⟨p, 0, none⟩), .int .i64 (up : Int), .int .i64 (i : Int)] w fun e w' => e = .returned (.bool fb) ∧ Kept (fun k => k < w.heap.size) w w' :=
    (rfits_go K p up i M R G rk w h ha hu hi hn hge _ rfl _ rfl).mono fun e w' ⟨hy, hk⟩ => by
      obtain ⟨b, he, hb⟩ := hy
      exact ⟨by rw [he, Bool.eq_iff_iff.2 (hb.trans hfb.symm)], hk⟩
  have HM : Hid (∀ w', Kept (fun k => k < w.heap.size) w w' → RX K w' p M R G ∧ Kept K w w') := fun w' hk => ⟨h.kept hk, hk.mono h.lt⟩
  have tb := rthere_any K p M R G (b : Int) w h
  rw [there_yes hb] at tb
  have b2 : ((b : Int) != -1) = true := by first | (simp; done) | (simp; omega)
  subst hf
  clear h ha hge hfb
  go_enter Tryz.func89, Tryz.ntmps89
  go_wp2_with fail
  refine tu.mono ?_
  rintro e1 w3 ⟨rfl, hw3⟩
  replace hw3 := hw3.symm
  subst hw3
  go_wp2_with fail
  refine ti.mono ?_
  rintro e1 w3 ⟨rfl, hw3⟩
  replace hw3 := hw3.symm
  subst hw3
  go_wp2_with fail
  refine tb.mono ?_
  rintro e1 w3 ⟨rfl, hw3⟩
  replace hw3 := hw3.symm
  subst hw3
  go_wp2_with fail
  refine rf.mono ?_
  rintro e1 w4 ⟨rfl, hk4⟩
  obtain ⟨hX4, hK4⟩ := HM.out w4 hk4
  have HX4 : Hid (RX K w4 p M R G) := hX4
  have HK4 : Hid (Kept K w w4) := hK4
  clear hX4 hK4 rf tu ti HM hk4 tb
  go_wp2
  go_ret
  exact ⟨rfl, HX4.out, HK4.out⟩
set_option maxRecDepth 20000 in
set_option maxHeartbeats 1000000 in
theorem rins_bad2 (K : Nat → Prop) (p up i : Nat) (M : Dm) (R G : Nat → List Nat) (rk : Nat → Nat) (w : World) (h : RX K w p M R G) (ha : Acy M rk) (hu : up < M.n) (hi : i < M.n) (hn : M.n ≤ 1000000) (hge : ∀ k, k < M.n → (M.pl k).up = -1 ∨ 0 ≤ (M.pl k).up) (fb : Bool) (hfb : fb = true ↔ RFits M up i) (hf : fb = true) (b : Nat) (hb : b < M.n) (hne : (M.pl b).up ≠ (up : Int)) :
    Calls Tryz.prog 89 #[.pointer (some ⟨p, 0, none⟩), .int .i64 (up : Int), .int .i64 (i : Int), .int .i64 (b : Int)] w fun e w' => e = .returned (.int .i64 81) ∧ RX K w' p M R G ∧ Kept K w w' := by
  have tu := rthere_any K p M R G (up : Int) w h
  rw [there_yes hu] at tu
  have ti := rthere_any K p M R G (i : Int) w h
  rw [there_yes hi] at ti
  have rf : Calls Tryz.prog 149 #[.pointer (some ⟨p, 0, none⟩), .int .i64 (up : Int), .int .i64 (i : Int)] w fun e w' => e = .returned (.bool fb) ∧ Kept (fun k => k < w.heap.size) w w' :=
    (rfits_go K p up i M R G rk w h ha hu hi hn hge _ rfl _ rfl).mono fun e w' ⟨hy, hk⟩ => by
      obtain ⟨b, he, hb⟩ := hy
      exact ⟨by rw [he, Bool.eq_iff_iff.2 (hb.trans hfb.symm)], hk⟩
  have HM : Hid (∀ w', Kept (fun k => k < w.heap.size) w w' → RX K w' p M R G ∧ Kept K w w') := fun w' hk => ⟨h.kept hk, hk.mono h.lt⟩
  have tb := rthere_any K p M R G (b : Int) w h
  rw [there_yes hb] at tb
  have b2 : ((b : Int) != -1) = true := by first | (simp; done) | (simp; omega)
  subst hf
  clear h ha hge hfb
  go_enter Tryz.func89, Tryz.ntmps89
  go_wp2_with fail
  refine tu.mono ?_
  rintro e1 w3 ⟨rfl, hw3⟩
  replace hw3 := hw3.symm
  subst hw3
  go_wp2_with fail
  refine ti.mono ?_
  rintro e1 w3 ⟨rfl, hw3⟩
  replace hw3 := hw3.symm
  subst hw3
  go_wp2_with fail
  refine tb.mono ?_
  rintro e1 w3 ⟨rfl, hw3⟩
  replace hw3 := hw3.symm
  subst hw3
  go_wp2_with fail
  refine rf.mono ?_
  rintro e1 w4 ⟨rfl, hk4⟩
  obtain ⟨hX4, hK4⟩ := HM.out w4 hk4
  have HX4 : Hid (RX K w4 p M R G) := hX4
  have HK4 : Hid (Kept K w w4) := hK4
  obtain ⟨A, hY4⟩ := hX4
  obtain ⟨g, hg, -, -, hgl⟩ := hY4.nat (by omega)
  have c1 := hY4.c1
  rw [hg] at c1
  have c4 : w4.cell? ⟨g, b * 14 + 4, none⟩ = some (.int .i64 (M.pl b).up) := hY4.cell hg hb 4 _ rfl
  obtain ⟨bu, hbu⟩ : ∃ bu, (M.pl b).up = bu := ⟨_, rfl⟩
  rw [hbu] at c4 hne
  have b3 : (bu != (up : Int)) = true := by simpa using hne
  clear hY4 hg hK4 rf tu ti HM hk4 tb hbu hne
  go_wp2
  go_ret
  exact ⟨rfl, HX4.out, HK4.out⟩
end Go.Proofs.YtbhfnbplbkncmaaGreat

namespace Go.Proofs.YtbhfnbplbkncmaaGreat
open Go.RowKit Go.Sort
set_option linter.unusedVariables false
set_option maxRecDepth 20000 in
set_option maxHeartbeats 1000000 in
theorem rins_one0 (K : Nat → Prop) (p up i : Nat) (M : Dm) (R G : Nat → List Nat) (rk : Nat → Nat) (w : World) (h : RX K w p M R G) (ha : Acy M rk) (hu : up < M.n) (hi : i < M.n) (hn : M.n ≤ 1000000) (hge : ∀ k, k < M.n → (M.pl k).up = -1 ∨ 0 ≤ (M.pl k).up) (fb : Bool) (hfb : fb = true ↔ RFits M up i) (hf : fb = true) (hkn : (M.nd i).kind ≠ 4) (hup : (M.pl i).up = -1 ∨ ∃ u : Nat, u < M.n ∧ (M.pl i).up = (u : Int)) (hrl : ∀ u, u < M.n → (R u).length ≤ 1000000) :
    Calls Tryz.prog 89 #[.pointer (some ⟨p, 0, none⟩), .int .i64 (up : Int), .int .i64 (i : Int), .int .i64 (-1)] w fun e w' => e = .returned (.int .i64 0) ∧ RX K w' p (rPutM M up i) (rPutR M R up i (-1)) G ∧ Kept K w w' := by
  have tu := rthere_any K p M R G (up : Int) w h
  rw [there_yes hu] at tu
  have ti := rthere_any K p M R G (i : Int) w h
  rw [there_yes hi] at ti
  have rf : Calls Tryz.prog 149 #[.pointer (some ⟨p, 0, none⟩), .int .i64 (up : Int), .int .i64 (i : Int)] w fun e w' => e = .returned (.bool fb) ∧ Kept (fun k => k < w.heap.size) w w' :=
    (rfits_go K p up i M R G rk w h ha hu hi hn hge _ rfl _ rfl).mono fun e w' ⟨hy, hk⟩ => by
      obtain ⟨b, he, hb⟩ := hy
      exact ⟨by rw [he, Bool.eq_iff_iff.2 (hb.trans hfb.symm)], hk⟩
  have HM : Hid (∀ w', Kept (fun k => k < w.heap.size) w w' → RX K w' p M R G ∧ Kept K w w') := fun w' hk => ⟨h.kept hk, hk.mono h.lt⟩
  subst hf
  clear h ha hge hfb
  go_enter Tryz.func89, Tryz.ntmps89
  go_wp2_with fail
  refine tu.mono ?_
  rintro e1 w3 ⟨rfl, hw3⟩
  replace hw3 := hw3.symm
  subst hw3
  go_wp2_with fail
  refine ti.mono ?_
  rintro e1 w3 ⟨rfl, hw3⟩
  replace hw3 := hw3.symm
  subst hw3
  go_wp2_with fail
  refine rf.mono ?_
  rintro e1 w4 ⟨rfl, hk4⟩
  obtain ⟨hX4, hK4⟩ := HM.out w4 hk4
  have HX4 : Hid (RX K w4 p M R G) := hX4
  have HK4 : Hid (Kept K w w4) := hK4
  have rp := rput_any K p up i (-1) M R G w4 hX4 hu hi hn hup hrl (by omega) (by omega)
  obtain ⟨A, hY4⟩ := hX4
  obtain ⟨g, hg, -, -, hgl⟩ := hY4.nat (by omega)
  have c1 := hY4.c1
  rw [hg] at c1
  have c0 : w4.cell? ⟨g, i * 14, none⟩ = some (.int .u8 ((M.nd i).kind : Int)) := hY4.cell hg hi 0 _ rfl
  obtain ⟨kd, hkd⟩ : ∃ kd, (M.nd i).kind = kd := ⟨_, rfl⟩
  rw [hkd] at c0 hkn
  have q4 : ((kd : Int) == 4) = false := by simp; omega
  have b3 : ((-1 : Int) == (i : Int)) = false := by first | (simp; done) | (simp; omega)
  clear hY4 hg hK4 rf tu ti HM hk4 hkd hkn hup hrl
  go_wp2_with fail
  refine rp.mono ?_
  rintro e1 w5 ⟨rfl, hX5, hK5⟩
  have HX5 : Hid (RX K w5 p (rPutM M up i) (rPutR M R up i (-1)) G) := hX5
  have HK5 : Hid (Kept K w w5) := HK4.out.trans hK5
  clear hX5 hK5 rp
  go_wp2
  go_ret
  exact ⟨rfl, HX5.out, HK5.out⟩
set_option maxRecDepth 20000 in
set_option maxHeartbeats 1000000 in
theorem rins_one1 (K : Nat → Prop) (p up i : Nat) (M : Dm) (R G : Nat → List Nat) (rk : Nat → Nat) (w : World) (h : RX K w p M R G) (ha : Acy M rk) (hu : up < M.n) (hi : i < M.n) (hn : M.n ≤ 1000000) (hge : ∀ k, k < M.n → (M.pl k).up = -1 ∨ 0 ≤ (M.pl k).up) (fb : Bool) (hfb : fb = true ↔ RFits M up i) (hf : fb = true) (hkn : (M.nd i).kind ≠ 4) (hup : (M.pl i).up = -1 ∨ ∃ u : Nat, u < M.n ∧ (M.pl i).up = (u : Int)) (hrl : ∀ u, u < M.n → (R u).length ≤ 1000000) (b : Nat) (hb : b < M.n) (hbu : (M.pl b).up = (up : Int)) (hbi : b ≠ i) :
    Calls Tryz.prog 89 #[.pointer (some ⟨p, 0, none⟩), .int .i64 (up : Int), .int .i64 (i : Int), .int .i64 (b : Int)] w fun e w' => e = .returned (.int .i64 0) ∧ RX K w' p (rPutM M up i) (rPutR M R up i (b : Int)) G ∧ Kept K w w' := by
  have tu := rthere_any K p M R G (up : Int) w h
  rw [there_yes hu] at tu
  have ti := rthere_any K p M R G (i : Int) w h
  rw [there_yes hi] at ti
  have rf : Calls Tryz.prog 149 #[.pointer (some ⟨p, 0, none⟩), .int .i64 (up : Int), .int .i64 (i : Int)] w fun e w' => e = .returned (.bool fb) ∧ Kept (fun k => k < w.heap.size) w w' :=
    (rfits_go K p up i M R G rk w h ha hu hi hn hge _ rfl _ rfl).mono fun e w' ⟨hy, hk⟩ => by
      obtain ⟨b, he, hb⟩ := hy
      exact ⟨by rw [he, Bool.eq_iff_iff.2 (hb.trans hfb.symm)], hk⟩
  have HM : Hid (∀ w', Kept (fun k => k < w.heap.size) w w' → RX K w' p M R G ∧ Kept K w w') := fun w' hk => ⟨h.kept hk, hk.mono h.lt⟩
  have tb := rthere_any K p M R G (b : Int) w h
  rw [there_yes hb] at tb
  have b2 : ((b : Int) != -1) = true := by first | (simp; done) | (simp; omega)
  subst hf
  clear h ha hge hfb
  go_enter Tryz.func89, Tryz.ntmps89
  go_wp2_with fail
  refine tu.mono ?_
  rintro e1 w3 ⟨rfl, hw3⟩
  replace hw3 := hw3.symm
  subst hw3
  go_wp2_with fail
  refine ti.mono ?_
  rintro e1 w3 ⟨rfl, hw3⟩
  replace hw3 := hw3.symm
  subst hw3
  go_wp2_with fail
  refine tb.mono ?_
  rintro e1 w3 ⟨rfl, hw3⟩
  replace hw3 := hw3.symm
  subst hw3
  go_wp2_with fail
  refine rf.mono ?_
  rintro e1 w4 ⟨rfl, hk4⟩
  obtain ⟨hX4, hK4⟩ := HM.out w4 hk4
  have HX4 : Hid (RX K w4 p M R G) := hX4
  have HK4 : Hid (Kept K w w4) := hK4
  have rp := rput_any K p up i (b : Int) M R G w4 hX4 hu hi hn hup hrl (by omega) (by omega)
  obtain ⟨A, hY4⟩ := hX4
  obtain ⟨g, hg, -, -, hgl⟩ := hY4.nat (by omega)
  have c1 := hY4.c1
  rw [hg] at c1
  have c0 : w4.cell? ⟨g, i * 14, none⟩ = some (.int .u8 ((M.nd i).kind : Int)) := hY4.cell hg hi 0 _ rfl
  obtain ⟨kd, hkd⟩ : ∃ kd, (M.nd i).kind = kd := ⟨_, rfl⟩
  rw [hkd] at c0 hkn
  have q4 : ((kd : Int) == 4) = false := by simp; omega
  have c4 : w4.cell? ⟨g, b * 14 + 4, none⟩ = some (.int .i64 (M.pl b).up) := hY4.cell hg hb 4 _ rfl
  rw [hbu] at c4
  have b3 : ((b : Int) == (i : Int)) = false := by simp; omega
  clear hY4 hg hK4 rf tu ti tb HM hk4 hkd hkn hup hrl hbu hbi
  go_wp2_with fail
  refine rp.mono ?_
  rintro e1 w5 ⟨rfl, hX5, hK5⟩
  have HX5 : Hid (RX K w5 p (rPutM M up i) (rPutR M R up i (b : Int)) G) := hX5
  have HK5 : Hid (Kept K w w5) := HK4.out.trans hK5
  clear hX5 hK5 rp
  go_wp2
  go_ret
  exact ⟨rfl, HX5.out, HK5.out⟩
set_option maxRecDepth 20000 in
set_option maxHeartbeats 1000000 in
theorem rins_one2 (K : Nat → Prop) (p up i : Nat) (M : Dm) (R G : Nat → List Nat) (rk : Nat → Nat) (w : World) (h : RX K w p M R G) (ha : Acy M rk) (hu : up < M.n) (hi : i < M.n) (hn : M.n ≤ 1000000) (hge : ∀ k, k < M.n → (M.pl k).up = -1 ∨ 0 ≤ (M.pl k).up) (fb : Bool) (hfb : fb = true ↔ RFits M up i) (hf : fb = true) (hkn : (M.nd i).kind ≠ 4) (hup : (M.pl i).up = -1 ∨ ∃ u : Nat, u < M.n ∧ (M.pl i).up = (u : Int)) (hrl : ∀ u, u < M.n → (R u).length ≤ 1000000) (hbu : (M.pl i).up = (up : Int)) (l r : List Nat) (hR : R up = l ++ i :: r) (hia : i ∉ l) (hr1 : -1 ≤ hdD r (-1)) (hr2 : hdD r (-1) ≤ 1000000000) :
    Calls Tryz.prog 89 #[.pointer (some ⟨p, 0, none⟩), .int .i64 (up : Int), .int .i64 (i : Int), .int .i64 (i : Int)] w fun e w' => e = .returned (.int .i64 0) ∧ RX K w' p (rPutM M up i) (rPutR M R up i (hdD r (-1))) G ∧ Kept K w w' := by
  obtain ⟨z, hz⟩ : ∃ z, hdD r (-1) = z := ⟨_, rfl⟩
  rw [hz] at hr1 hr2 ⊢
  have tu := rthere_any K p M R G (up : Int) w h
  rw [there_yes hu] at tu
  have ti := rthere_any K p M R G (i : Int) w h
  rw [there_yes hi] at ti
  have rf : Calls Tryz.prog 149 #[.pointer (some ⟨p, 0, none⟩), .int .i64 (up : Int), .int .i64 (i : Int)] w fun e w' => e = .returned (.bool fb) ∧ Kept (fun k => k < w.heap.size) w w' :=
    (rfits_go K p up i M R G rk w h ha hu hi hn hge _ rfl _ rfl).mono fun e w' ⟨hy, hk⟩ => by
      obtain ⟨b, he, hb⟩ := hy
      exact ⟨by rw [he, Bool.eq_iff_iff.2 (hb.trans hfb.symm)], hk⟩
  have HM : Hid (∀ w', Kept (fun k => k < w.heap.size) w w' → RX K w' p M R G ∧ Kept K w w') := fun w' hk => ⟨h.kept hk, hk.mono h.lt⟩
  have tb := rthere_any K p M R G (i : Int) w h
  rw [there_yes hi] at tb
  have b2 : ((i : Int) != -1) = true := by first | (simp; done) | (simp; omega)
  subst hf
  clear h ha hge hfb
  go_enter Tryz.func89, Tryz.ntmps89
  go_wp2_with fail
  refine tu.mono ?_
  rintro e1 w3 ⟨rfl, hw3⟩
  replace hw3 := hw3.symm
  subst hw3
  go_wp2_with fail
  refine ti.mono ?_
  rintro e1 w3 ⟨rfl, hw3⟩
  replace hw3 := hw3.symm
  subst hw3
  go_wp2_with fail
  refine tb.mono ?_
  rintro e1 w3 ⟨rfl, hw3⟩
  replace hw3 := hw3.symm
  subst hw3
  go_wp2_with fail
  refine rf.mono ?_
  rintro e1 w4 ⟨rfl, hk4⟩
  obtain ⟨hX4, hK4⟩ := HM.out w4 hk4
  have HX4 : Hid (RX K w4 p M R G) := hX4
  have HK4 : Hid (Kept K w w4) := hK4
  have rn := rnext_any K p i up M R G w4 hX4 hi hu hbu hn l r hR hia (hrl up hu)
  have HP : Hid (∀ X, Kept (fun k => k < w4.heap.size) w4 X → Calls Tryz.prog 151 #[.pointer (some ⟨p, 0, none⟩), .int .i64 (up : Int), .int .i64 (i : Int), .int .i64 z] X fun e w' => e = .returned (.tuple #[]) ∧ RX K w' p (rPutM M up i) (rPutR M R up i z) G ∧ Kept K w4 w') := fun X hX => (rput_any K p up i z M R G X (hX4.kept hX) hu hi hn hup hrl hr1 hr2).mono fun e w' ⟨a, b, c⟩ => ⟨a, b, (hX.mono hX4.lt).trans c⟩
  rw [hz] at rn
  obtain ⟨A, hY4⟩ := hX4
  obtain ⟨g, hg, -, -, hgl⟩ := hY4.nat (by omega)
  have c1 := hY4.c1
  rw [hg] at c1
  have c0 : w4.cell? ⟨g, i * 14, none⟩ = some (.int .u8 ((M.nd i).kind : Int)) := hY4.cell hg hi 0 _ rfl
  obtain ⟨kd, hkd⟩ : ∃ kd, (M.nd i).kind = kd := ⟨_, rfl⟩
  rw [hkd] at c0 hkn
  have q4 : ((kd : Int) == 4) = false := by simp; omega
  have c4 : w4.cell? ⟨g, i * 14 + 4, none⟩ = some (.int .i64 (M.pl i).up) := hY4.cell hg hi 4 _ rfl
  rw [hbu] at c4
  clear hY4 hg hK4 rf tu ti tb HM hk4 hkd hkn hup hrl hbu hR hia hz hr1 hr2
  go_wp2_with fail
  refine rn.mono ?_
  rintro e1 w5 ⟨rfl, hk5⟩
  have rp := HP.out w5 hk5
  clear rn hk5
  go_wp2_with fail
  refine rp.mono ?_
  rintro e1 w5 ⟨rfl, hX5, hK5⟩
  have HX5 : Hid (RX K w5 p (rPutM M up i) (rPutR M R up i z) G) := hX5
  have HK5 : Hid (Kept K w w5) := HK4.out.trans hK5
  clear hX5 hK5 rp
  go_wp2
  go_ret
  exact ⟨rfl, HX5.out, HK5.out⟩
end Go.Proofs.YtbhfnbplbkncmaaGreat

namespace Go.Proofs.YtbhfnbplbkncmaaGreat
open Go.RowKit Go.Sort
set_option linter.unusedVariables false
set_option maxRecDepth 20000 in
set_option maxHeartbeats 1000000 in
theorem rins_frag0 (K : Nat → Prop) (p up i : Nat) (M : Dm) (R G : Nat → List Nat) (rk : Nat → Nat) (w : World) (h : RX K w p M R G) (ha : Acy M rk) (hu : up < M.n) (hi : i < M.n) (hn : M.n ≤ 1000000) (hge : ∀ k, k < M.n → (M.pl k).up = -1 ∨ 0 ≤ (M.pl k).up) (fb : Bool) (hfb : fb = true ↔ RFits M up i)  (hf : fb = true) (hkn : (M.nd i).kind = 4) (hlen : (R i).length ≤ 1000000) (Mk : Nat → Dm) (Rk : Nat → Nat → List Nat) (m0 : Mk 0 = M) (r0 : Rk 0 = R)
    (hst : ∀ k (hk : k < (R i).length), Mk (k + 1) = rPutM (Mk k) up (R i)[k] ∧ Rk (k + 1) = rPutR (Mk k) (Rk k) up (R i)[k] (-1))
    (hmn : ∀ k, (Mk k).n = M.n) (hli : ∀ k (hk : k < (R i).length), (R i)[k] < M.n) (hups : ∀ k (hk : k < (R i).length), ((Mk k).pl (R i)[k]).up = -1 ∨ ∃ u : Nat, u < M.n ∧ ((Mk k).pl (R i)[k]).up = (u : Int)) (hrls : ∀ k u, k ≤ (R i).length → u < M.n → (Rk k u).length ≤ 1000000) :
    Calls Tryz.prog 89 #[.pointer (some ⟨p, 0, none⟩), .int .i64 (up : Int), .int .i64 (i : Int), .int .i64 (-1)] w fun e w' => e = .returned (.int .i64 0) ∧ RX K w' p (Mk (R i).length) (Rk (R i).length) G ∧ Kept K w w' := by
  have tu := rthere_any K p M R G (up : Int) w h
  rw [there_yes hu] at tu
  have ti := rthere_any K p M R G (i : Int) w h
  rw [there_yes hi] at ti
  have rf : Calls Tryz.prog 149 #[.pointer (some ⟨p, 0, none⟩), .int .i64 (up : Int), .int .i64 (i : Int)] w fun e w' => e = .returned (.bool fb) ∧ Kept (fun k => k < w.heap.size) w w' :=
    (rfits_go K p up i M R G rk w h ha hu hi hn hge _ rfl _ rfl).mono fun e w' ⟨hy, hk⟩ => by
      obtain ⟨b, he, hb⟩ := hy
      exact ⟨by rw [he, Bool.eq_iff_iff.2 (hb.trans hfb.symm)], hk⟩
  have HM : Hid (∀ w', Kept (fun k => k < w.heap.size) w w' → RX K w' p M R G ∧ Kept K w w') := fun w' hk => ⟨h.kept hk, hk.mono h.lt⟩
  have hlx : ∀ (K' : Nat → Prop) k (hk : k < (R i).length) X, RX K' X p (Mk k) (Rk k) G → Calls Tryz.prog 151 #[.pointer (some ⟨p, 0, none⟩), .int .i64 (up : Int), .int .i64 ((R i)[k] : Int), .int .i64 (-1)] X fun e w' => e = .returned (.tuple #[]) ∧ RX K' w' p (Mk (k + 1)) (Rk (k + 1)) G ∧ Kept K' X w' := fun K' k hk X hX => by
    have := rput_any K' p up (R i)[k] (-1) (Mk k) (Rk k) G X hX (by rw [hmn]; exact hu) (by rw [hmn]; exact hli k hk) (by rw [hmn]; exact hn) (by rw [hmn]; exact hups k hk) (by rw [hmn]; exact fun u hu => hrls k u (by omega) hu) (by omega) (by omega)
    rw [← (hst k hk).1, ← (hst k hk).2] at this
    exact this
  subst hf
  clear h ha hge hfb
  go_enter Tryz.func89, Tryz.ntmps89
  go_wp2_with fail
  refine tu.mono ?_
  rintro e1 w3 ⟨rfl, hw3⟩
  replace hw3 := hw3.symm
  subst hw3
  go_wp2_with fail
  refine ti.mono ?_
  rintro e1 w3 ⟨rfl, hw3⟩
  replace hw3 := hw3.symm
  subst hw3
  go_wp2_with fail
  refine rf.mono ?_
  rintro e1 w4 ⟨rfl, hk4⟩
  obtain ⟨hX4, hK4⟩ := HM.out w4 hk4
  have HX4 : Hid (RX K w4 p M R G) := hX4
  have HK4 : Hid (Kept K w w4) := hK4
  obtain ⟨A, hY4⟩ := hX4
  obtain ⟨g, hg, -, -, hgl⟩ := hY4.nat (by omega)
  have c1 := hY4.c1
  rw [hg] at c1
  have c0 : w4.cell? ⟨g, i * 14, none⟩ = some (.int .u8 ((M.nd i).kind : Int)) := hY4.cell hg hi 0 _ rfl
  rw [hkn] at c0
  have c0' : w4.cell? ⟨g, i * 14, none⟩ = some (.int .u8 4) := c0
  have c5 : w4.cell? ⟨g, i * 14 + 5, none⟩ = some (.slice (A.ka i) (R i).length (A.kc i)) := hY4.cell hg hi 5 _ rfl
  have hki := (hY4.kid i hi).to (F' := fun k => k < w4.heap.size) (w' := w4) (fun g hg => hg.1) (fun _ _ => rfl)
  have HX0 : Hid (RX K w4 p (Mk 0) (Rk 0) G) := by rw [m0, r0]; exact HX4
  obtain ⟨l, hle⟩ : ∃ l, R i = l := ⟨_, rfl⟩
  obtain ⟨n, hne⟩ : ∃ n, l.length = n := ⟨_, rfl⟩
  obtain ⟨ka, hka⟩ : ∃ ka, A.ka i = ka := ⟨_, rfl⟩
  obtain ⟨kc, hkc⟩ : ∃ kc, A.kc i = kc := ⟨_, rfl⟩
  rw [hle, hne, hka, hkc] at c5
  rw [hle, hka] at hki
  have ri := rints_any l ka n kc hne (by rw [← hne, ← hle]; omega) w4 hki
  have hn1 : n ≤ 1000000 := by rw [← hne, ← hle]; exact hlen
  have HRN : Hid ((R i).length = n) := by rw [← hne, ← hle]; exact (show Hid _ from rfl)
  have HLI : Hid (R i = l) := hle
  have HLX : Hid (∀ (K' : Nat → Prop) k (hk : k < l.length) X, RX K' X p (Mk k) (Rk k) G → Calls Tryz.prog 151 #[.pointer (some ⟨p, 0, none⟩), .int .i64 (up : Int), .int .i64 (l[k] : Int), .int .i64 (-1)] X fun e w' => e = .returned (.tuple #[]) ∧ RX K' w' p (Mk (k + 1)) (Rk (k + 1)) G ∧ Kept K' X w') := by subst hle; exact (show Hid _ from hlx)
  have HLT : Hid (∀ k, K k → k < w4.heap.size) := hY4.lt
  clear hY4 hg hK4 rf tu ti HM hk4 hlx hki hle hne hka hkc hst hmn hli hups hrls m0 r0 c0 hkn hlen
  go_wp2_with fail
  refine ri.mono ?_
  rintro e1 w5 ⟨ao, c, rfl, hO, hk5⟩
  have HX5 : Hid (RX (fun k => K k ∨ (w4.heap.size ≤ k ∧ k < w5.heap.size)) w5 p (Mk 0) (Rk 0) G) := HX0.out.more hk5 (fun k h => h.elim .inl fun h => .inr h.1) (fun k h => h.elim (fun h => Nat.lt_of_lt_of_le (HLT.out k h) hk5.size) fun h => h.2)
  have HK5 : Hid (Kept K w w5) := HK4.out.trans (hk5.mono HLT.out)
  have HO : Hid (IntsAt (fun k => w4.heap.size ≤ k ∧ k < w5.heap.size) w5 ao l) := hO.intsAt fun x hx => ⟨Nat.le_of_not_lt (OwnZ.out hO hx).1, (OwnZ.out hO hx).2⟩
  have HLN : Hid (l.length = n) := by rw [← HLI.out]; exact HRN
  obtain ⟨K', hK'⟩ : ∃ K' : Nat → Prop, (fun k => K k ∨ (w4.heap.size ≤ k ∧ k < w5.heap.size)) = K' := ⟨_, rfl⟩
  have HK0 : Hid (∀ k, K k → K' k) := by rw [← hK']; exact (show Hid _ from fun k h => .inl h)
  have HK1 : Hid (∀ k, (w4.heap.size ≤ k ∧ k < w5.heap.size) → K' k) := by rw [← hK']; exact (show Hid _ from fun k h => .inr h)
  rw [hK'] at HX5
  clear ri hO hk5 HX0 HX4 HK4 hK'
  go_upto_region 8 with fail
  go_loopg [10] n (fun gh v wr => ∃ k : Nat, gh = n - k ∧ k ≤ n ∧ v = .int .i64 (k : Int) ∧ RX K' wr p (Mk k) (Rk k) G ∧ Kept K' w5 wr)
  case atStart => exact ⟨0, rfl, Nat.zero_le _, rfl, HX5.out, Kept.refl _ _⟩
  case round =>
    obtain ⟨k, hgk, hk, rfl, hXk, hKk⟩ := hrel
    have HXk : Hid (RX K' wr p (Mk k) (Rk k) G) := hXk
    have HKk : Hid (Kept K' w5 wr) := hKk
    by_cases hlt : k < n
    · have hkl : k < l.length := by rw [HLN.out]; exact hlt
      obtain ⟨g1, o1, rfl, hg1, d0⟩ := HO.out k hkl
      have d0w := (hKk.cell (p := ⟨g1, o1 + k, none⟩) (HK1.out g1 hg1)).trans d0
      have rp := HLX.out K' k hkl wr hXk
      obtain ⟨y, hy⟩ : ∃ y, l[k] = y := ⟨_, rfl⟩
      rw [hy] at d0w rp
      clear d0 hXk hKk hy
      go_wp2_with fail
      refine rp.mono ?_
      rintro e1 w6 ⟨rfl, hX6, hK6⟩
      have HX6 : Hid (RX K' w6 p (Mk (k + 1)) (Rk (k + 1)) G) := hX6
      have HK6 : Hid (Kept K' w5 w6) := HKk.out.trans hK6
      clear rp hX6 hK6 d0w
      go_wp2
      go_roundg (n - (k + 1))
      case rel => exact ⟨k + 1, rfl, by omega, by go_num, HX6.out, HK6.out⟩
      case measure => omega
    · have hkn : n = k := by omega
      subst hkn
      clear hXk hKk
      go_wp2
      go_ret
      refine ⟨rfl, ?_, HK5.out.trans (HKk.out.mono HK0.out)⟩
      rw [HRN.out]
      exact HXk.out.more (Kept.refl _ _) (fun k h => .inl (HK0.out k h)) (fun k h => HXk.out.lt k (HK0.out k h))
set_option maxRecDepth 20000 in
set_option maxHeartbeats 1000000 in
theorem rins_frag1 (K : Nat → Prop) (p up i : Nat) (M : Dm) (R G : Nat → List Nat) (rk : Nat → Nat) (w : World) (h : RX K w p M R G) (ha : Acy M rk) (hu : up < M.n) (hi : i < M.n) (hn : M.n ≤ 1000000) (hge : ∀ k, k < M.n → (M.pl k).up = -1 ∨ 0 ≤ (M.pl k).up) (fb : Bool) (hfb : fb = true ↔ RFits M up i) (b : Nat) (hb : b < M.n) (hbu : (M.pl b).up = (up : Int)) (hf : fb = true) (hkn : (M.nd i).kind = 4) (hlen : (R i).length ≤ 1000000) (Mk : Nat → Dm) (Rk : Nat → Nat → List Nat) (m0 : Mk 0 = M) (r0 : Rk 0 = R)
    (hst : ∀ k (hk : k < (R i).length), Mk (k + 1) = rPutM (Mk k) up (R i)[k] ∧ Rk (k + 1) = rPutR (Mk k) (Rk k) up (R i)[k] (b : Int))
    (hmn : ∀ k, (Mk k).n = M.n) (hli : ∀ k (hk : k < (R i).length), (R i)[k] < M.n) (hups : ∀ k (hk : k < (R i).length), ((Mk k).pl (R i)[k]).up = -1 ∨ ∃ u : Nat, u < M.n ∧ ((Mk k).pl (R i)[k]).up = (u : Int)) (hrls : ∀ k u, k ≤ (R i).length → u < M.n → (Rk k u).length ≤ 1000000) :
    Calls Tryz.prog 89 #[.pointer (some ⟨p, 0, none⟩), .int .i64 (up : Int), .int .i64 (i : Int), .int .i64 (b : Int)] w fun e w' => e = .returned (.int .i64 0) ∧ RX K w' p (Mk (R i).length) (Rk (R i).length) G ∧ Kept K w w' := by
  have tu := rthere_any K p M R G (up : Int) w h
  rw [there_yes hu] at tu
  have ti := rthere_any K p M R G (i : Int) w h
  rw [there_yes hi] at ti
  have rf : Calls Tryz.prog 149 #[.pointer (some ⟨p, 0, none⟩), .int .i64 (up : Int), .int .i64 (i : Int)] w fun e w' => e = .returned (.bool fb) ∧ Kept (fun k => k < w.heap.size) w w' :=
    (rfits_go K p up i M R G rk w h ha hu hi hn hge _ rfl _ rfl).mono fun e w' ⟨hy, hk⟩ => by
      obtain ⟨b, he, hb⟩ := hy
      exact ⟨by rw [he, Bool.eq_iff_iff.2 (hb.trans hfb.symm)], hk⟩
  have HM : Hid (∀ w', Kept (fun k => k < w.heap.size) w w' → RX K w' p M R G ∧ Kept K w w') := fun w' hk => ⟨h.kept hk, hk.mono h.lt⟩
  have tb := rthere_any K p M R G (b : Int) w h
  rw [there_yes hb] at tb
  have b2 : ((b : Int) != -1) = true := by first | (simp; done) | (simp; omega)
  have hlx : ∀ (K' : Nat → Prop) k (hk : k < (R i).length) X, RX K' X p (Mk k) (Rk k) G → Calls Tryz.prog 151 #[.pointer (some ⟨p, 0, none⟩), .int .i64 (up : Int), .int .i64 ((R i)[k] : Int), .int .i64 (b : Int)] X fun e w' => e = .returned (.tuple #[]) ∧ RX K' w' p (Mk (k + 1)) (Rk (k + 1)) G ∧ Kept K' X w' := fun K' k hk X hX => by
    have := rput_any K' p up (R i)[k] (b : Int) (Mk k) (Rk k) G X hX (by rw [hmn]; exact hu) (by rw [hmn]; exact hli k hk) (by rw [hmn]; exact hn) (by rw [hmn]; exact hups k hk) (by rw [hmn]; exact fun u hu => hrls k u (by omega) hu) (by omega) (by omega)
    rw [← (hst k hk).1, ← (hst k hk).2] at this
    exact this
  subst hf
  clear h ha hge hfb
  go_enter Tryz.func89, Tryz.ntmps89
  go_wp2_with fail
  refine tu.mono ?_
  rintro e1 w3 ⟨rfl, hw3⟩
  replace hw3 := hw3.symm
  subst hw3
  go_wp2_with fail
  refine ti.mono ?_
  rintro e1 w3 ⟨rfl, hw3⟩
  replace hw3 := hw3.symm
  subst hw3
  go_wp2_with fail
  refine tb.mono ?_
  rintro e1 w3 ⟨rfl, hw3⟩
  replace hw3 := hw3.symm
  subst hw3
  go_wp2_with fail
  refine rf.mono ?_
  rintro e1 w4 ⟨rfl, hk4⟩
  obtain ⟨hX4, hK4⟩ := HM.out w4 hk4
  have HX4 : Hid (RX K w4 p M R G) := hX4
  have HK4 : Hid (Kept K w w4) := hK4
  obtain ⟨A, hY4⟩ := hX4
  obtain ⟨g, hg, -, -, hgl⟩ := hY4.nat (by omega)
  have c1 := hY4.c1
  rw [hg] at c1
  have c4 : w4.cell? ⟨g, b * 14 + 4, none⟩ = some (.int .i64 (M.pl b).up) := hY4.cell hg hb 4 _ rfl
  rw [hbu] at c4
  clear tb hbu
  have c0 : w4.cell? ⟨g, i * 14, none⟩ = some (.int .u8 ((M.nd i).kind : Int)) := hY4.cell hg hi 0 _ rfl
  rw [hkn] at c0
  have c0' : w4.cell? ⟨g, i * 14, none⟩ = some (.int .u8 4) := c0
  have c5 : w4.cell? ⟨g, i * 14 + 5, none⟩ = some (.slice (A.ka i) (R i).length (A.kc i)) := hY4.cell hg hi 5 _ rfl
  have hki := (hY4.kid i hi).to (F' := fun k => k < w4.heap.size) (w' := w4) (fun g hg => hg.1) (fun _ _ => rfl)
  have HX0 : Hid (RX K w4 p (Mk 0) (Rk 0) G) := by rw [m0, r0]; exact HX4
  obtain ⟨l, hle⟩ : ∃ l, R i = l := ⟨_, rfl⟩
  obtain ⟨n, hne⟩ : ∃ n, l.length = n := ⟨_, rfl⟩
  obtain ⟨ka, hka⟩ : ∃ ka, A.ka i = ka := ⟨_, rfl⟩
  obtain ⟨kc, hkc⟩ : ∃ kc, A.kc i = kc := ⟨_, rfl⟩
  rw [hle, hne, hka, hkc] at c5
  rw [hle, hka] at hki
  have ri := rints_any l ka n kc hne (by rw [← hne, ← hle]; omega) w4 hki
  have hn1 : n ≤ 1000000 := by rw [← hne, ← hle]; exact hlen
  have HRN : Hid ((R i).length = n) := by rw [← hne, ← hle]; exact (show Hid _ from rfl)
  have HLI : Hid (R i = l) := hle
  have HLX : Hid (∀ (K' : Nat → Prop) k (hk : k < l.length) X, RX K' X p (Mk k) (Rk k) G → Calls Tryz.prog 151 #[.pointer (some ⟨p, 0, none⟩), .int .i64 (up : Int), .int .i64 (l[k] : Int), .int .i64 (b : Int)] X fun e w' => e = .returned (.tuple #[]) ∧ RX K' w' p (Mk (k + 1)) (Rk (k + 1)) G ∧ Kept K' X w') := by subst hle; exact (show Hid _ from hlx)
  have HLT : Hid (∀ k, K k → k < w4.heap.size) := hY4.lt
  clear hY4 hg hK4 rf tu ti HM hk4 hlx hki hle hne hka hkc hst hmn hli hups hrls m0 r0 c0 hkn hlen
  go_wp2_with fail
  refine ri.mono ?_
  rintro e1 w5 ⟨ao, c, rfl, hO, hk5⟩
  have HX5 : Hid (RX (fun k => K k ∨ (w4.heap.size ≤ k ∧ k < w5.heap.size)) w5 p (Mk 0) (Rk 0) G) := HX0.out.more hk5 (fun k h => h.elim .inl fun h => .inr h.1) (fun k h => h.elim (fun h => Nat.lt_of_lt_of_le (HLT.out k h) hk5.size) fun h => h.2)
  have HK5 : Hid (Kept K w w5) := HK4.out.trans (hk5.mono HLT.out)
  have HO : Hid (IntsAt (fun k => w4.heap.size ≤ k ∧ k < w5.heap.size) w5 ao l) := hO.intsAt fun x hx => ⟨Nat.le_of_not_lt (OwnZ.out hO hx).1, (OwnZ.out hO hx).2⟩
  have HLN : Hid (l.length = n) := by rw [← HLI.out]; exact HRN
  obtain ⟨K', hK'⟩ : ∃ K' : Nat → Prop, (fun k => K k ∨ (w4.heap.size ≤ k ∧ k < w5.heap.size)) = K' := ⟨_, rfl⟩
  have HK0 : Hid (∀ k, K k → K' k) := by rw [← hK']; exact (show Hid _ from fun k h => .inl h)
  have HK1 : Hid (∀ k, (w4.heap.size ≤ k ∧ k < w5.heap.size) → K' k) := by rw [← hK']; exact (show Hid _ from fun k h => .inr h)
  rw [hK'] at HX5
  clear ri hO hk5 HX0 HX4 HK4 hK'
  go_upto_region 8 with fail
  go_loopg [10] n (fun gh v wr => ∃ k : Nat, gh = n - k ∧ k ≤ n ∧ v = .int .i64 (k : Int) ∧ RX K' wr p (Mk k) (Rk k) G ∧ Kept K' w5 wr)
  case atStart => exact ⟨0, rfl, Nat.zero_le _, rfl, HX5.out, Kept.refl _ _⟩
  case round =>
    obtain ⟨k, hgk, hk, rfl, hXk, hKk⟩ := hrel
    have HXk : Hid (RX K' wr p (Mk k) (Rk k) G) := hXk
    have HKk : Hid (Kept K' w5 wr) := hKk
    by_cases hlt : k < n
    · have hkl : k < l.length := by rw [HLN.out]; exact hlt
      obtain ⟨g1, o1, rfl, hg1, d0⟩ := HO.out k hkl
      have d0w := (hKk.cell (p := ⟨g1, o1 + k, none⟩) (HK1.out g1 hg1)).trans d0
      have rp := HLX.out K' k hkl wr hXk
      obtain ⟨y, hy⟩ : ∃ y, l[k] = y := ⟨_, rfl⟩
      rw [hy] at d0w rp
      clear d0 hXk hKk hy
      go_wp2_with fail
      refine rp.mono ?_
      rintro e1 w6 ⟨rfl, hX6, hK6⟩
      have HX6 : Hid (RX K' w6 p (Mk (k + 1)) (Rk (k + 1)) G) := hX6
      have HK6 : Hid (Kept K' w5 w6) := HKk.out.trans hK6
      clear rp hX6 hK6 d0w
      go_wp2
      go_roundg (n - (k + 1))
      case rel => exact ⟨k + 1, rfl, by omega, by go_num, HX6.out, HK6.out⟩
      case measure => omega
    · have hkn : n = k := by omega
      subst hkn
      clear hXk hKk
      go_wp2
      go_ret
      refine ⟨rfl, ?_, HK5.out.trans (HKk.out.mono HK0.out)⟩
      rw [HRN.out]
      exact HXk.out.more (Kept.refl _ _) (fun k h => .inl (HK0.out k h)) (fun k h => HXk.out.lt k (HK0.out k h))
end Go.Proofs.YtbhfnbplbkncmaaGreat

namespace Go.Proofs.YtbhfnbplbkncmaaGreat
open Go.RowKit Go.Sort
set_option linter.unusedVariables false
set_option maxRecDepth 20000 in
theorem limit_any (K : Nat → Prop) (p : Nat) (M : Dm) (w : World) (h : DX K w p M) :
    Calls Tryz.prog 104 #[.pointer (some ⟨p, 0, none⟩)] w fun e w' => e = .returned (.int .i64 (M.limit : Int)) ∧ w' = w := by
  obtain ⟨ga, cap, hY⟩ := h
  have c0 := hY.c0
  clear hY
  go_enter Tryz.func104, Tryz.ntmps104
  go_wp2
  go_ret
  exact ⟨rfl, rfl⟩
set_option maxRecDepth 20000 in
theorem remove_none (K : Nat → Prop) (p : Nat) (M : Dm) (i : Int) (w : World) (h : DX K w p M) (hi : i < 0 ∨ (M.n : Int) ≤ i) (hn : M.n ≤ 1000000) :
    Calls Tryz.prog 43 #[.pointer (some ⟨p, 0, none⟩), .int .i64 i] w fun e w' => e = .returned (.int .u16 80) ∧ w' = w := by
  obtain ⟨ga, cap, hY⟩ := h
  have r := at_no p M.n cap ga i w hY.c1 hi (by omega)
  clear hY hi
  go_enter Tryz.func43, Tryz.ntmps43
  go_wp2_with (go_at_call 76; refine r.mono ?_; rintro e1 w3 ⟨rfl, hw3⟩; replace hw3 := hw3.symm; subst hw3)
  go_ret
  exact ⟨rfl, rfl⟩
set_option maxRecDepth 20000 in
set_option maxHeartbeats 1000000 in
theorem remove_in (K : Nat → Prop) (p i : Nat) (M : Dm) (R : Nat → List Nat) (w : World) (h : DX K w p M) (hW : WF M.n M.pl R) (hi : i < M.n) (hn : M.n ≤ 1000000) :
    Calls Tryz.prog 43 #[.pointer (some ⟨p, 0, none⟩), .int .i64 (i : Int)] w fun e w' => Kept K w w' ∧ (((M.pl i).up = -1 ∧ e = .returned (.int .u16 81) ∧ DX K w' p M) ∨ ((M.pl i).up ≠ -1 ∧ e = .returned (.int .u16 0) ∧ DX K w' p (M.setP (outL M.pl i)))) := by
  obtain ⟨ga, cap, hY⟩ := h
  obtain ⟨g, rfl, -, -, -⟩ := hY.at (by omega)
  have r := at_yes p g M.n cap i w hY.c1 hi (by omega)
  have rt := takeOutP K p g cap i M R w hY hW hi (by omega)
  obtain ⟨c0, -⟩ := hY.pcell hi
  have HY : Hid (DY K w p M (some ⟨g, 0, none⟩) cap) := hY
  obtain ⟨u, hu⟩ : ∃ u, (M.pl i).up = u := ⟨_, rfl⟩
  have HU : Hid ((M.pl i).up = u) := hu
  rw [hu] at c0
  clear hY hu hW
  by_cases q : u = -1
  · subst q
    clear rt
    go_enter Tryz.func43, Tryz.ntmps43
    go_wp2_with (go_at_call 76; refine r.mono ?_; rintro e1 w3 ⟨rfl, hw3⟩; replace hw3 := hw3.symm; subst hw3)
    go_ret
    exact ⟨Kept.refl _ _, .inl ⟨HU.out, rfl, _, _, HY.out⟩⟩
  · have q1 : (u == -1) = false := by simpa using q
    have HQ : Hid ((M.pl i).up ≠ -1) := by rw [HU.out]; exact (show Hid _ from q)
    go_enter Tryz.func43, Tryz.ntmps43
    go_wp2_with (first | (go_at_call 76; refine r.mono ?_; rintro e1 w3 ⟨rfl, hw3⟩; replace hw3 := hw3.symm; subst hw3) | (go_at_call 78; refine (kids_any _ _).mono ?_; rintro e w2 ⟨rfl, hw2⟩; replace hw2 := hw2.symm; subst hw2) | (go_at_call 103; refine rt.mono ?_; rintro e1 w4 ⟨rfl, hY4, hK4⟩))
    go_ret
    exact ⟨hK4, .inr ⟨HQ.out, rfl, _, _, hY4⟩⟩
set_option maxRecDepth 20000 in
theorem write_none (K : Nat → Prop) (p : Nat) (M : Dm) (i : Int) (S : ByteArray) (w : World) (h : DX K w p M) (hi : i < 0 ∨ (M.n : Int) ≤ i) (hn : M.n ≤ 1000000) :
    Calls Tryz.prog 97 #[.pointer (some ⟨p, 0, none⟩), .int .i64 i, .string S] w fun e w' => e = .returned (.int .u16 80) ∧ w' = w := by
  obtain ⟨ga, cap, hY⟩ := h
  have r := at_no p M.n cap ga i w hY.c1 hi (by omega)
  clear hY hi
  go_enter Tryz.func97, Tryz.ntmps97
  go_wp2_with (go_at_call 76; refine r.mono ?_; rintro e1 w3 ⟨rfl, hw3⟩; replace hw3 := hw3.symm; subst hw3)
  go_ret
  exact ⟨rfl, rfl⟩
end Go.Proofs.YtbhfnbplbkncmaaGreat
