/-
  The walk of DomDoes.
-/
import Derived.Test.YthhoicmfmfeehaaGreatVUg
import Derived.Test.YthhoicmfmfeehaaGreatZ36
namespace Go.Proofs.YthhoicmfmfeehaaGreat
open Go.RowKit Go.Sort
set_option linter.unusedVariables false
/-- A copy takes the program's place. -/
theorem Two.copy {K E : Nat → Prop} {w w' : World} {p p' r : Nat} {M : Dm} {R G : Nat → List Nat} (h : Two K E w p r M R G) (hd : DX (fun k => k < w.heap.size) w' p' M) (hk : Kept (fun k => k < w.heap.size) w w') : Two K E w' p' r M R G := by
  have h' := h.kept hk
  refine ⟨hd.more (Kept.refl _ _) (fun k hh => .inl ?_) (fun k hh => h'.d.lt k hh), h'.r, h.nk⟩
  rcases hh with hh | hh
  · exact h.lt k hh
  · exact h.elt k hh
set_option maxRecDepth 20000 in
theorem ddoes_none (lim : Int) (hl : lim < 1 ∨ 5000 < lim) (l : List Opx) (n : Nat) (hln : l.length = n) (hnn : n ≤ 60) (a : Option Addr) (c : Nat) (hb : opsH l ≤ 6000) (w : World) (h : OpsAt (fun k => k < w.heap.size) w a l) :
    Calls Tryz.prog 3 #[.int .i64 lim, .slice a n c] w fun e w' => e = .returned (.bool true) ∧ Kept (fun k => k < w.heap.size) w w' := by
  have rh := heavy_any l n hln (by omega) a c (by omega) w h
  have hg60 : decide ((n : Int) > 60) = false := decide_eq_false (by omega)
  obtain ⟨hv, hhv⟩ : ∃ hv, opsH l = hv := ⟨_, rfl⟩
  rw [hhv] at rh
  have hg6 : decide ((hv : Int) > 6000) = false := decide_eq_false (by omega)
  have rn := fun X => new_no lim X hl
  have rr := fun X => rnew_no lim X hl
  clear hhv h hln hb hl
  go_enter Tryz.func3, Tryz.ntmps3
  go_wp2_with fail
  refine rh.mono ?_
  rintro e w1 ⟨rfl, k1⟩
  have rk0 := known_any w1
  clear rh
  go_wp2_with fail
  refine rk0.mono ?_
  rintro e w2 ⟨rfl, k2⟩
  have k12 : Kept (fun k => k < w.heap.size) w w2 := k1.trans (k2.mono fun k h => Nat.lt_of_lt_of_le h k1.size)
  clear rk0 k1 k2
  go_wp2_with (first | (go_at_call 11; refine (rn _).mono ?_; rintro e1 w3 ⟨rfl, hw3⟩; replace hw3 := hw3.symm; subst hw3) | (go_at_call 12; refine (rr _).mono ?_; rintro e1 w3 ⟨rfl, hw3⟩; replace hw3 := hw3.symm; subst hw3))
  go_ret
  exact ⟨rfl, k12⟩
set_option maxRecDepth 20000 in
theorem ddoes_long (lim : Int) (n : Nat) (hnn : 60 < n) (a : Option Addr) (c : Nat) (w : World) :
    Calls Tryz.prog 3 #[.int .i64 lim, .slice a n c] w fun e w' => e = .returned (.bool true) ∧ Kept (fun k => k < w.heap.size) w w' := by
  have hg60 : decide ((n : Int) > 60) = true := decide_eq_true (by omega)
  have rk0 := known_any w
  go_enter Tryz.func3, Tryz.ntmps3
  go_wp2_with (go_at_call 10; refine rk0.mono ?_; rintro e w2 ⟨rfl, k2⟩)
  go_ret
  exact ⟨rfl, k2⟩
set_option maxRecDepth 20000 in
theorem ddoes_heavy (lim : Int) (l : List Opx) (n : Nat) (hln : l.length = n) (hnn : n ≤ 60) (a : Option Addr) (c : Nat) (hb : 6000 < opsH l) (hb2 : opsH l ≤ 2000000) (w : World) (h : OpsAt (fun k => k < w.heap.size) w a l) :
    Calls Tryz.prog 3 #[.int .i64 lim, .slice a n c] w fun e w' => e = .returned (.bool true) ∧ Kept (fun k => k < w.heap.size) w w' := by
  have rh := heavy_any l n hln (by omega) a c hb2 w h
  have hg60 : decide ((n : Int) > 60) = false := decide_eq_false (by omega)
  obtain ⟨hv, hhv⟩ : ∃ hv, opsH l = hv := ⟨_, rfl⟩
  rw [hhv] at rh hb
  have hg6 : decide ((hv : Int) > 6000) = true := decide_eq_true (by omega)
  clear hhv h hln hb2
  go_enter Tryz.func3, Tryz.ntmps3
  go_wp2_with fail
  refine rh.mono ?_
  rintro e w1 ⟨rfl, k1⟩
  have rk0 := known_any w1
  clear rh
  go_wp2_with (go_at_call 10; refine rk0.mono ?_; rintro e w2 ⟨rfl, k2⟩)
  go_ret
  exact ⟨rfl, k1.trans (k2.mono fun k h => Nat.lt_of_lt_of_le h k1.size)⟩
set_option maxRecDepth 20000 in
set_option maxHeartbeats 8000000 in
theorem ddoes_go (lim : Nat) (hl1 : 1 ≤ lim) (hl2 : lim ≤ 5000) (l : List Opx) (n : Nat) (hln : l.length = n) (hnn : n ≤ 60) (a : Option Addr) (c : Nat) (hok : ∀ o ∈ l, OpOk o) (hb : opsH l ≤ 6000) (w : World) (h : OpsAt (fun k => k < w.heap.size) w a l) :
    Calls Tryz.prog 3 #[.int .i64 (lim : Int), .slice a n c] w fun e w' => e = .returned (.bool true) ∧ Kept (fun k => k < w.heap.size) w w' := by
  have rh := heavy_any l n hln (by omega) a c (by omega) w h
  have hg60 : decide ((n : Int) > 60) = false := decide_eq_false (by omega)
  obtain ⟨hv, hhv⟩ : ∃ hv, opsH l = hv := ⟨_, rfl⟩
  rw [hhv] at rh
  have hg6 : decide ((hv : Int) > 6000) = false := decide_eq_false (by omega)
  have RN : Hid (∀ X, Calls Tryz.prog 11 #[.int .i64 (lim : Int)] X fun e w' => ∃ p, e = .returned (.pointer (some ⟨p, 0, none⟩)) ∧ X.heap.size ≤ p ∧ DX (fun k => k < X.heap.size) w' p (Dm.new lim) ∧ Kept (fun k => k < X.heap.size) X w') := fun X => new_yes lim X hl1 hl2
  have RR : Hid (∀ X, Calls Tryz.prog 12 #[.int .i64 (lim : Int)] X fun e w' => ∃ p, e = .returned (.pointer (some ⟨p, 0, none⟩)) ∧ X.heap.size ≤ p ∧ RX (fun k => k < X.heap.size) w' p (Dm.new lim) (fun _ => []) (fun _ => []) ∧ Kept (fun k => k < X.heap.size) X w') := fun X => rnew_yes lim X hl1 hl2
  have HL : Hid (l.length = n) := hln
  have HB : Hid (opsH l ≤ 6000) := hb
  have HH : Hid (OpsAt (fun k => k < w.heap.size) w a l) := h
  have HOK : Hid (∀ o ∈ l, OpOk o) := hok
  clear hhv hln hb h hok
  go_enter Tryz.func3, Tryz.ntmps3
  go_wp2_with fail
  refine rh.mono ?_
  rintro e w1 ⟨rfl, k1⟩
  have rk0 := known_any w1
  clear rh
  go_wp2_with fail
  refine rk0.mono ?_
  rintro e w2 ⟨rfl, k2⟩
  have k12 : Kept (fun k => k < w.heap.size) w w2 := k1.trans (k2.mono fun k h => Nat.lt_of_lt_of_le h k1.size)
  have HK12 : Hid (Kept (fun k => k < w.heap.size) w w2) := k12
  have rn := RN.out w2
  clear rk0 k1 k2 k12
  go_wp2_with fail
  refine rn.mono ?_
  rintro e w3 ⟨p, rfl, -, hX3, k3⟩
  have rr := RR.out w3
  have HX3 : Hid (DX (fun k => k < w2.heap.size) w3 p (Dm.new lim)) := hX3
  have HK3 : Hid (Kept (fun k => k < w2.heap.size) w2 w3) := k3
  clear rn hX3 k3
  go_wp2_with fail
  refine rr.mono ?_
  rintro e w4 ⟨r, rfl, -, hX4, k4⟩
  have HG0 : Hid (Grown (fun k => k < w2.heap.size) (fun k => w3.heap.size ≤ k ∧ k < w4.heap.size) w4 p r (Dm.new lim) (fun _ => []) (fun _ => []) (fun _ => 0) lim) := ⟨two_new HX3.out HK3.out hX4 k4, Inv.new lim, rfl, hl1⟩
  have HK4 : Hid (Kept (fun k => k < w2.heap.size) w2 w4) := HK3.out.trans (k4.mono fun k h => Nat.lt_of_lt_of_le h HK3.out.size)
  have HH2 : Hid (OpsAt (fun k => k < w2.heap.size) w2 a l) := HH.out.kept HK12.out (fun g hg => Nat.lt_of_lt_of_le hg HK12.out.size)
  clear rr hX4 k4 HX3 HK3 RN RR HH
  go_upto_region 8 with fail
  go_loopg [5, 7] n (fun gh v5 v7 wr => ∃ (k p' : Nat) (E : Nat → Prop) (M : Dm) (R G : Nat → List Nat) (rk : Nat → Nat), gh = n - k ∧ k ≤ n ∧ v7 = .int .i64 (k : Int) ∧ v5 = .pointer (some ⟨p', 0, none⟩) ∧ Grown (fun k => k < w2.heap.size) E wr p' r M R G rk lim ∧ Kept (fun k => k < w2.heap.size) w2 wr)
  case atStart => exact ⟨0, p, _, _, _, _, _, rfl, Nat.zero_le _, rfl, rfl, HG0.out, HK4.out⟩
  case round =>
    clear HG0 HK4
    obtain ⟨k, p', E, M, R, G, rk, hgk, hk, rfl, rfl, hG, hK⟩ := hrel
    have HG : Hid (Grown (fun k => k < w2.heap.size) E wr p' r M R G rk lim) := hG
    have HK : Hid (Kept (fun k => k < w2.heap.size) w2 wr) := hK
    by_cases hlt : k < n
    · have hll : k < l.length := by rw [HL.out]; exact hlt
      obtain ⟨g, o, A, rfl, hg, hA, hc⟩ := HH2.out k hll
      have hmem := List.getElem_mem hll
      obtain ⟨x, hx⟩ : ∃ x, l[k] = x := ⟨_, rfl⟩
      rw [hx] at hA hc hmem
      have hvx := opsH_mem hmem
      have cell : ∀ f u, (opC x A)[f]? = some u → wr.cell? ⟨g, o + k * 17 + f, none⟩ = some u := fun f u hu => (hK.cell (p := ⟨g, o + k * 17 + f, none⟩) hg).trans (hc f u hu)
      have hdoes := does_any (fun k => k < w2.heap.size) E p' r M R G rk wr x A ⟨hG.two, hG.inv, hG.le, by rw [hG.lim]; omega, HOK.out x hmem, by have := HB.out; omega, hA.kept hK (fun g hg => hg)⟩
      have e0 : wr.cell? ⟨g, o + k * 17, none⟩ = some (.int .u8 (x.k : Int)) := cell 0 _ rfl
      have e1 := cell 1 _ rfl
      have e2 := cell 2 _ rfl
      have e3 := cell 3 _ rfl
      have e4 := cell 4 _ rfl
      have e5 := cell 5 _ rfl
      have e6 := cell 6 _ rfl
      have e7 := cell 7 _ rfl
      have e8 := cell 8 _ rfl
      have e9 := cell 9 _ rfl
      have e10 := cell 10 _ rfl
      have e11 := cell 11 _ rfl
      have e12 := cell 12 _ rfl
      have e13 := cell 13 _ rfl
      have e14 := cell 14 _ rfl
      have e15 := cell 15 _ rfl
      have e16 := cell 16 _ rfl
      obtain ⟨q, hq⟩ : ∃ q, x.k % 16 = q := ⟨_, rfl⟩
      have hkm : (x.k : Int).tmod 16 = (q : Int) := by rw [← hq]; rfl
      have hq16 : q < 16 := by omega
      have HD : Hid (Calls Tryz.prog 13 #[.pointer (some ⟨p', 0, none⟩), .pointer (some ⟨r, 0, none⟩), opV x A] wr (DoesOk (fun k => k < w2.heap.size) p' r M wr)) := hdoes
      have HGG : Hid (g < w2.heap.size) := hg
      clear hG hK hc hA hmem hx cell hvx hdoes hq
      go_wp2_with fail
      refine HD.out.mono ?_
      rintro e w5 ⟨rfl, E', M', R', G', rk', h2, hI, hG', hK3⟩
      have HG3 : Hid (Grown (fun k => k < w2.heap.size) E' w5 p' r M' R' G' rk' lim) := ⟨h2, hI, hG'.limit.trans HG.out.lim, hG'.le HG.out.le⟩
      have HK5 : Hid (Kept (fun k => k < w2.heap.size) w2 w5) := HK.out.trans hK3
      have f0 : w5.cell? ⟨g, o + k * 17, none⟩ = some (.int .u8 (x.k : Int)) := (hK3.cell (p := ⟨g, o + k * 17, none⟩) HGG.out).trans e0
      clear HD h2 hI hG' hK3 HG HK e0 e1 e2 e3 e4 e5 e6 e7 e8 e9 e10 e11 e12 e13 e14 e15 e16
      obtain ⟨W6, hW6⟩ : ∃ W6, wr = W6 := ⟨_, rfl⟩
      go_upto_if 57 with fail
      go_cut [5] (fun v5 wx => ∃ p2, v5 = .pointer (some ⟨p2, 0, none⟩) ∧ Grown (fun k => k < w2.heap.size) E' wx p2 r M' R' G' rk' lim ∧ Kept (fun k => k < w2.heap.size) w2 wx)
      case first =>
        by_cases q15 : q = 15
        · subst q15
          have rc := copy_any _ p' M' w5 HG3.out.two.d HG3.out.inv.core.pos (by have := HG3.out.le; rw [HG3.out.lim] at this; omega) HG3.out.inv.good.few
          go_wp2_with fail
          refine rc.mono ?_
          rintro e w6 ⟨p2, rfl, hp2, hX6, k6⟩
          have HG6 : Hid (Grown (fun k => k < w2.heap.size) E' w6 p2 r M' R' G' rk' lim) := ⟨HG3.out.two.copy hX6 k6, HG3.out.inv, HG3.out.lim, HG3.out.le⟩
          have HK6 : Hid (Kept (fun k => k < w2.heap.size) w2 w6) := HK5.out.trans (k6.mono fun k h => Nat.lt_of_lt_of_le h HK5.out.size)
          clear rc hX6 k6 hp2
          go_wp2
          go_meet
          case rel => exact ⟨p2, rfl, HG6.out, HK6.out⟩
        · have n15 : ((q : Int) == 15) = false := by simp; omega
          go_wp2
          go_meet
          case rel => exact ⟨p', rfl, HG3.out, HK5.out⟩
      case rest =>
        obtain ⟨p2, rfl, hG7, hK7⟩ := hcut
        have rs := same_any _ _ wc p2 r M' R' G' rk' hG7.two hG7.inv (by have := hG7.le; rw [hG7.lim] at this; omega)
        have HG7 : Hid (Grown (fun k => k < w2.heap.size) E' wc p2 r M' R' G' rk' lim) := hG7
        have HK7 : Hid (Kept (fun k => k < w2.heap.size) w2 wc) := hK7
        clear hG7 hK7 HG3 HK5 f0
        go_wp2_with fail
        refine rs.mono ?_
        rintro e w8 ⟨rfl, k8⟩
        have HG8 : Hid (Grown (fun k => k < w2.heap.size) E' w8 p2 r M' R' G' rk' lim) := HG7.out.kept k8
        have HK8 : Hid (Kept (fun k => k < w2.heap.size) w2 w8) := HK7.out.trans (k8.mono fun k h => Nat.lt_of_lt_of_le h HK7.out.size)
        clear rs k8 HG7 HK7
        go_wp2
        go_roundg (n - (k + 1))
        case rel => exact ⟨k + 1, p2, E', M', R', G', rk', rfl, by omega, by go_num, rfl, HG8.out, HK8.out⟩
        case measure => omega
    · have hkn : n = k := by omega
      subst hkn
      have HKE : Hid (Kept (fun k => k < w.heap.size) w wr) := HK12.out.trans (hK.mono fun k h => Nat.lt_of_lt_of_le h HK12.out.size)
      clear hG hK
      go_wp2
      go_ret
      exact ⟨rfl, HKE.out⟩
end Go.Proofs.YthhoicmfmfeehaaGreat
