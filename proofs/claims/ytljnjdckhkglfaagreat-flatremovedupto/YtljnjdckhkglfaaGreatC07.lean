/-
 The walk of FlatRemoved.
-/
import Derived.Test.YtljnjdckhkglfaaGreatC05
namespace Go.Proofs.YtljnjdckhkglfaaGreat
set_option linter.unusedVariables false
set_option maxRecDepth 100000
set_option maxHeartbeats 8000000
section
open Go.RowKit Go.Sort
section
variable {K : Nat -> Prop} {w : World} {p : Nat} {M : Dm} {R G : Nat -> List Nat} {rk : Nat -> Nat}
theorem Rd.remove (h : Rd K w p M R G rk) {i : Nat} (hi : i < M.n) (hu : (M.pl i).up ≠ -1) : Calls Tryz.prog 56 #[.pointer (some ⟨p, 0, none⟩), .int .i64 (i : Int)] w fun e w' => e = .returned (.int .u16 0) /\ Rd K w' p (M.setP (outL M.pl i)) (outR M.pl R i) G rk /\ Kept K w w' :=
 (remove_in K p i M R w h.d h.inv.good.wf hi (by have := h.le; omega)).mono fun e w' ⟨hK, hc⟩ => by
  rcases hc with ⟨c, _⟩ | ⟨_, e1, hX⟩
  ·exact absurd c hu
  ·exact ⟨e1, ⟨hX, h.inv.out hi, h.le⟩, hK⟩
end
theorem has_any {K : Nat -> Prop} {w : World} {p : Nat} {M : Dm} {R G : Nat -> List Nat} {rk : Nat -> Nat} (h : Rd K w p M R G rk) {i : Nat} (hi : i < M.n) :
  Calls Tryz.prog 57 #[.pointer (some ⟨p, 0, none⟩), .int .i64 (i : Int)] w fun e w' => e = .returned (.bool true) /\ Kept (fun k => k < w.heap.size) w w' := by
 have r := h.walk (i : Int)
 rw [trI_in hi, tr_eq h.inv.fK_falls hi] at r
 have hl : ((fK M R G i).flatMap (tr M.n (fK M R G))).length + 1 <= 100000 := by
  have h1 := h.inv.walk_len (G := G) hi
  rw [tr_eq h.inv.fK_falls hi, List.length_cons] at h1
  have := h.le
  omega
 obtain ⟨L, hL⟩ : ∃ L, (fK M R G i).flatMap (tr M.n (fK M R G)) = L := ⟨_, rfl⟩
 rw [hL] at r hl
 clear h hi hL
 go_enter Tryz.func57, Tryz.ntmps57
 go_wp2_with fail
 refine r.mono ?_
 rintro e w2 ⟨ao, c, rfl, hO, hk⟩
 obtain ⟨g, rfl, hg, c0⟩ := one_cell hO
 have HK : Hid (Kept (fun k => k < w.heap.size) w w2) := hk
 obtain ⟨ll, hll⟩ : ∃ ll, (i :: L).length = ll := ⟨_, rfl⟩
 have h1 : 1 <= ll := by rw [<- hll]; simp
 have h2 : ll <= 100000 := by rw [<- hll, List.length_cons]; exact hl
 have e0 : decide ((ll : Int) > 0) = true := decide_eq_true (by omega)
 rw [hll]
 clear r hO hk hll hg hl
 go_wp2
 go_ret
 exact ⟨rfl, HK.out⟩
theorem frem_go (l : List Opx) (n : Nat) (hln : l.length = n) (hnn : n <= 60) (a : Option Addr) (c : Nat) (hok : ∀ o ∈ l, OpOk o) (hb : opsH l <= 6000) (w : World) (h : OpsAt (fun k => k < w.heap.size) w a l) (za : Nat) (hza : za < 65536) :
  Calls Tryz.prog 15 #[.slice a n c, .int .u16 (za : Int)] w fun e w' => e = .returned (.bool true) /\ Kept (fun k => k < w.heap.size) w w' := by
 have rh := heavy13_any l n hln hnn a c (by omega) w h
 rw [decide_eq_false (by omega : ¬ 6000 < opsH l)] at rh
 have RG : Hid (∀ X, Kept (fun k => k < w.heap.size) w X -> Calls Tryz.prog 49 #[.slice a n c] X fun e w' => ∃ p r E M R G rk, e = .returned (.tuple #[.pointer (some ⟨p, 0, none⟩), .pointer (some ⟨r, 0, none⟩)]) /\ Grown (fun k => k < X.heap.size) E w' p r M R G rk 300 /\ Kept (fun k => k < X.heap.size) X w') := fun X hX => grown13 l n hln (by omega) a c hok (by omega) X (h.kept hX fun g hg => Nat.lt_of_lt_of_le hg hX.size)
 clear hln hok hb h
 go_enter Tryz.func15, Tryz.ntmps15
 go_wp2_with fail
 refine rh.mono ?_
 rintro e w1 ⟨rfl, k1⟩
 have rk0 := fknown_any w1
 clear rh
 go_wp2_with fail
 refine rk0.mono ?_
 rintro e w2 ⟨rfl, k2⟩
 have k12 : Kept (fun k => k < w.heap.size) w w2 := k1.trans (k2.mono fun k h => Nat.lt_of_lt_of_le h k1.size)
 have rg := RG.out w2 k12
 have HK12 : Hid (Kept (fun k => k < w.heap.size) w w2) := k12
 clear rk0 k1 k2 k12 RG
 go_wp2_with fail
 refine rg.mono ?_
 rintro e W ⟨p, r, E, M, R, G, rk, rfl, hG, hK⟩
 have HKW : Hid (Kept (fun k => k < w.heap.size) w W) := HK12.out.trans (hK.mono fun k h => Nat.lt_of_lt_of_le h HK12.out.size)
 obtain ⟨m, hm⟩ : ∃ m, M.n = m := ⟨_, rfl⟩
 have HM : Hid (M.n = m) := hm
 have hm300 : m <= 300 := by have h1 := hG.le; rw [hG.lim, hm] at h1; exact h1
 have hm1 : 1 <= m := by rw [<- hm]; exact hG.inv.core.pos
 have rl : Calls Tryz.prog 19 #[.pointer (some ⟨p, 0, none⟩)] W fun e w' => e = .returned (.int .i64 (m : Int)) /\ w' = W := by rw [<- hm]; exact hG.len (Kept.refl _ _)
 have RD : Hid (∀ X, Kept (fun k => k < W.heap.size) W X -> Rd (TK (fun k => k < w2.heap.size) E) X p M R G rk) := fun X hX => hG.rd (by decide) hX
 have HI : Hid (Inv M R G rk) := hG.inv
 obtain ⟨i, hi⟩ : ∃ i, za % m = i := ⟨_, rfl⟩
 have him : i < m := by rw [<- hi]; exact Nat.mod_lt _ (by omega)
 have hi' : (za : Int).tmod (m : Int) = (i : Int) := by rw [<- hi]; rfl
 have hin : i < M.n := by rw [hm]; exact him
 have HIN : Hid (i < M.n) := hin
 have HUPS : Hid ((M.pl i).up = -1 \/ ∃ u : Nat, u < M.n /\ (M.pl i).up = (u : Int)) := hG.inv.ups' hin
 have rn := (RD.out W (Kept.refl _ _)).node hin
 clear rg hG hK hm hi hin
 go_upto_region 7 with (go_at_call 19; refine rl.mono ?_; rintro e1 w3 ⟨rfl, hw3⟩; replace hw3 := hw3.symm; subst hw3)
 clear rl
 go_wp2_with fail
 refine rn.mono ?_
 rintro e v2 ⟨ao2, ac2, ko2, kc2, rfl, hO2, hQ2, hK2⟩
 obtain ⟨V2, N2, hV2, hN2, hB2⟩ := BoxN.of (up := (M.pl i).up) hO2 hQ2 hK2
 have HV2 : Hid (v2.alloc (.cells (nV (M.nd i) ao2 ac2 ((M.pl i).up) ko2 (R i).length kc2) 41) = V2) := hV2
 have HN2 : Hid (v2.heap.size = N2) := hN2
 have HB2 : Hid (BoxN W V2 N2 (M.nd i) ((M.pl i).up) (R i) ao2 ac2 ko2 kc2) := hB2
 have c4 := hB2.c4
 have HK2 : Hid (Kept (fun k => k < W.heap.size) W V2) := hB2.kept
 clear rn hO2 hQ2 hK2 hV2 hN2 hB2 HB2
 go_upto_region 8 with fail
 rw [HV2.out, HN2.out]
 clear HV2 HN2
 rcases HUPS.out with hu | ⟨u, hun, hu⟩
 ·rw [hu] at c4
  have ru := (RD.out V2 HK2.out).up (i : Int)
  have hz : upZ M R G i = -1 := by unfold upZ; rw [if_pos hu]
  rw [upI_in HIN.out, hz] at ru
  have e0 : decide ((-1 : Int) < 0) = true := by decide
  clear hu hz
  go_wp2_with fail
  refine ru.mono ?_
  rintro e u3 ⟨rfl, hk3⟩
  clear ru c4
  go_wp2
  go_ret
  exact ⟨rfl, HKW.out.trans ((HK2.out.trans (hk3.mono fun k h => Nat.lt_of_lt_of_le h HK2.out.size)).mono fun k h => Nat.lt_of_lt_of_le h HKW.out.size)⟩
 ·rw [hu] at c4
  have rr := (RD.out V2 HK2.out).remove HIN.out (by omega)
  have e0 : decide ((u : Int) < 0) = false := decide_eq_false (by omega)
  have HUP : Hid ((outL M.pl i i).up = -1) := out_up
  have hi0 : i ≠ 0 := fun e => by have := HI.out.z0; rw [e] at hu; omega
  clear hu
  go_wp2_with fail
  refine rr.mono ?_
  rintro e u3 ⟨rfl, hR3, hk3⟩
  have HK3 : Hid (Kept (fun k => k < w.heap.size) w u3) := (HKW.out.trans (HK2.out.mono fun k h => Nat.lt_of_lt_of_le h HKW.out.size)).trans (hk3.mono fun k h => .inl (Nat.lt_of_lt_of_le h HK12.out.size))
  have HR3 : Hid (Rd (TK (fun k => k < w2.heap.size) E) u3 p (M.setP (outL M.pl i)) (outR M.pl R i) G rk) := hR3
  have h0 : 0 < (M.setP (outL M.pl i)).n := hR3.inv.core.pos
  have rw1 := hR3.walk 0
  have hF := hR3.inv.fK_falls (G := G)
  have hni : ∀ x ∈ tr (M.setP (outL M.pl i)).n (fK (M.setP (outL M.pl i)) (outR M.pl R i) G) 0, x ≠ i := fun x hx e => by
   have hup := (mem_tr hF h0).1 hx
   subst e
   cases hup with
   | here => exact hi0 rfl
   | @up _ y hy hm _ =>
    have q := hR3.inv.fK_mem hy hm
    have hz : upZ (M.setP (outL M.pl x)) (outR M.pl R x) G x = -1 := by unfold upZ; exact if_pos HUP.out
    by_cases c5 : ((M.setP (outL M.pl x)).nd y).kind = 5
    ·have := (q.2.2.2.2 c5).1
     obtain ⟨o, _, eo, _⟩ := hR3.inv.host hy c5
     omega
    ·have := q.2.2.2.1 c5
     omega
  have et : trI (M.setP (outL M.pl i)).n (fK (M.setP (outL M.pl i)) (outR M.pl R i) G) (0 : Int) = tr (M.setP (outL M.pl i)).n (fK (M.setP (outL M.pl i)) (outR M.pl R i) G) 0 := trI_in (i := 0) h0
  rw [et] at rw1
  have hL9 := hR3.inv.walk_len (G := G) h0
  have h3 : (M.setP (outL M.pl i)).n = m := HM.out
  obtain ⟨L, hL⟩ : ∃ L, tr (M.setP (outL M.pl i)).n (fK (M.setP (outL M.pl i)) (outR M.pl R i) G) 0 = L := ⟨_, rfl⟩
  rw [hL] at rw1 hL9 hni
  rw [h3] at hL9
  have HNI : Hid (∀ x ∈ L, x ≠ i) := hni
  have HI3 : Hid (i < (M.setP (outL M.pl i)).n) := HIN.out
  have HZ3 : Hid (upZ (M.setP (outL M.pl i)) (outR M.pl R i) G i = -1) := by unfold upZ; exact if_pos HUP.out
  obtain ⟨ll, hll⟩ : ∃ ll, L.length = ll := ⟨_, rfl⟩
  have HLL : Hid (L.length = ll) := hll
  rw [hll] at hL9
  clear rr hR3 hk3 hF hni hL h3 hi0 c4 h0 et
  go_wp2_with fail
  refine rw1.mono ?_
  rintro e u4 ⟨wa, wc, rfl, hWO, hk4⟩
  have HROW : Hid (IntsAt (fun g => g < u4.heap.size) u4 wa L) := hWO.intsAt fun g hg => (hWO.out hg).2
  have HK4 : Hid (Kept (fun k => k < u3.heap.size) u3 u4) := hk4
  have ru := (HR3.out.kept hk4).up (i : Int)
  rw [upI_in HI3.out, HZ3.out] at ru
  have RH : Hid (∀ X, Kept (fun k => k < u4.heap.size) u4 X -> Calls Tryz.prog 57 #[.pointer (some ⟨p, 0, none⟩), .int .i64 (i : Int)] X fun e w' => e = .returned (.bool true) /\ Kept (fun k => k < X.heap.size) X w') := fun X hX => has_any ((HR3.out.kept HK4.out).kept hX) HI3.out
  have HKU : Hid (Kept (fun k => k < w.heap.size) w u4) := HK3.out.trans (hk4.mono fun k h => Nat.lt_of_lt_of_le h HK3.out.size)
  rw [hll]
  clear rw1 hWO hk4 hll
  go_upto_region 13 with fail
  obtain ⟨U, hU⟩ : ∃ U, u4 = U := ⟨_, rfl⟩
  rw [hU]
  rw [hU] at HROW HK4 ru RH HKU
  clear hU
  go_loopg [11] ll (fun gh v11 wr => ∃ k : Nat, gh = ll - k /\ k <= ll /\ v11 = .int .i64 (k : Int) /\ wr = U)
  case atStart => exact ⟨0, rfl, Nat.zero_le _, rfl, rfl⟩
  case round =>
   obtain ⟨k, hgk, hk, rfl, rfl⟩ := hrel
   by_cases hlt : k < ll
   ·have hkL : k < L.length := by rw [HLL.out]; exact hlt
    obtain ⟨g, o, rfl, hg, dd⟩ := HROW.out k hkL
    have d' : wr.cell? ⟨g, o + k, none⟩ = some (.int .i64 (L[k] : Int)) := dd
    have hne := HNI.out L[k] (List.getElem_mem hkL)
    obtain ⟨x, hx⟩ : ∃ x, L[k] = x := ⟨_, rfl⟩
    rw [hx] at d' hne
    have e1 : ((x : Int) == (i : Int)) = false := by simp; omega
    clear dd hx hne ru
    go_wp2
    go_roundg (ll - (k + 1))
    case rel => exact ⟨k + 1, rfl, by omega, by go_num, rfl⟩
    case measure => omega
   ·have hkn : ll = k := by omega
    subst hkn
    go_wp2_with fail
    refine ru.mono ?_
    rintro e u5 ⟨rfl, hk5⟩
    have rh := RH.out u5 hk5
    have HK5 : Hid (Kept (fun k => k < w.heap.size) w u5) := HKU.out.trans (hk5.mono fun k h => Nat.lt_of_lt_of_le h HKU.out.size)
    clear ru hk5
    go_wp2_with fail
    refine rh.mono ?_
    rintro e u6 ⟨rfl, hk6⟩
    clear rh
    go_wp2
    go_ret
    exact ⟨rfl, HK5.out.trans (hk6.mono fun k h => Nat.lt_of_lt_of_le h HK5.out.size)⟩
theorem frem_no (a : Option Addr) (n c : Nat) (w : World) (za : Int) (rh : Calls Tryz.prog 47 #[.slice a n c] w fun e w' => e = .returned (.bool true) /\ Kept (fun k => k < w.heap.size) w w') :
  Calls Tryz.prog 15 #[.slice a n c, .int .u16 za] w fun e w' => e = .returned (.bool true) /\ Kept (fun k => k < w.heap.size) w w' := by
 go_enter Tryz.func15, Tryz.ntmps15
 go_wp2_with fail
 refine rh.mono ?_
 rintro e w1 ⟨rfl, k1⟩
 have rk0 := fknown_any w1
 clear rh
 go_wp2_with (go_at_call 48; refine rk0.mono ?_; rintro e w2 ⟨rfl, k2⟩)
 go_ret
 exact ⟨rfl, k1.trans (k2.mono fun k h => Nat.lt_of_lt_of_le h k1.size)⟩
end
end Go.Proofs.YtljnjdckhkglfaaGreat
