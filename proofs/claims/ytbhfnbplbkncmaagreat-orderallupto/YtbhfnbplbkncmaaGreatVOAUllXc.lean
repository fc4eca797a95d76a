/-
  The walk of OrderAll.
-/
import Derived.Test.YtbhfnbplbkncmaaGreatVOAUllMg
namespace Go.Proofs.YtbhfnbplbkncmaaGreat
open Go.RowKit Go.Sort
set_option linter.unusedVariables false
section
variable {M : Dm} {R G : Nat → List Nat} {rk : Nat → Nat}
theorem topOf_up (h : Inv M R G rk) {i t : Nat} (hT : TopOf M i t) : i < M.n → Up M.n (fwd M R) t i := by
  induction hT with
  | here _ => exact fun _ => .here
  | @up k m t e _ ih =>
    intro hk
    obtain ⟨hm, _⟩ := h.good.rk_up hk e
    rcases h.good.wf.inn k hk with e' | ⟨u, hu, e', hmem⟩
    · omega
    · have : u = m := by omega
      subst this
      exact .up hm (fwd_mem.2 (.inl hmem)) (ih hm)
theorem topT_up (h : Inv M R G rk) {i t : Nat} (hT : TopT M i t) : i < M.n → Up M.n (fwd M R) t i := by
  induction hT with
  | here h0 _ => exact fun hi => topOf_up h h0 hi
  | @up i r o t h0 k0 e _ ih =>
    intro hi
    obtain ⟨r', hr', hTr, _⟩ := h.good.top _ i (Nat.lt_succ_self _) hi
    have := h0.one hTr
    subst this
    obtain ⟨o', ho', e', hs, _, _⟩ := h.host hr' k0
    have h9 := Int.ofNat.inj (e.symm.trans e')
    subst h9
    have hm : r ∈ fwd M R o := fwd_mem.2 (.inr ⟨by rw [hs]; omega, by rw [hs, Int.toNat_natCast]⟩)
    exact Up.trans (.up ho' hm (ih ho')) (topOf_up h h0 hi)
theorem up_topT (h : Inv M R G rk) {t x : Nat} (ht : t < M.n) (h0 : TopT M t t) (hu : Up M.n (fwd M R) t x) : TopT M x t := by
  induction hu with
  | here => exact h0
  | @up x y hy hm _ ih =>
    rcases fwd_mem.1 hm with q | ⟨q1, q2⟩
    · exact TopT.of_up (h.good.kid hy q).2.1 ih
    · obtain ⟨s, e, hsn, hh, hup⟩ := h.shd hy q1
      rw [e, Int.toNat_natCast] at q2
      subst q2
      exact .up (.here hup) (h.shadow hy e).2.1 hh ih
theorem topT_self {i t : Nat} (hT : TopT M i t) : TopT M t t := by
  induction hT with
  | here h0 k0 => exact .here (.here h0.end0) k0
  | up _ _ _ _ ih => exact ih
end
set_option maxRecDepth 20000 in
set_option maxHeartbeats 8000000 in
theorem oall_go (l : List Opx) (n : Nat) (hln : l.length = n) (hnn : n ≤ 60) (a : Option Addr) (c : Nat) (hok : ∀ o ∈ l, OpOk o) (hb : opsH l ≤ 6000) (w : World) (h : OpsAt (fun k => k < w.heap.size) w a l) (za : Nat) (hza : za < 65536) :
    Calls Tryz.prog 7 #[.slice a n c, .int .u16 (za : Int)] w fun e w' => e = .returned (.bool true) ∧ Kept (fun k => k < w.heap.size) w w' := by
  have rh := heavy9_any l n hln hnn a c (by omega) w h
  rw [decide_eq_false (by omega : ¬ 6000 < opsH l)] at rh
  have RG : Hid (∀ X, Kept (fun k => k < w.heap.size) w X → Calls Tryz.prog 22 #[.slice a n c] X fun e w' => ∃ p r E M R G rk, e = .returned (.tuple #[.pointer (some ⟨p, 0, none⟩), .pointer (some ⟨r, 0, none⟩)]) ∧ Grown (fun k => k < X.heap.size) E w' p r M R G rk 300 ∧ Kept (fun k => k < X.heap.size) X w') := fun X hX => grown9 l n hln (by omega) a c hok (by omega) X (h.kept hX fun g hg => Nat.lt_of_lt_of_le hg hX.size)
  clear hln hok hb h
  go_enter Tryz.func7, Tryz.ntmps7
  go_wp2_with fail
  refine rh.mono ?_
  rintro e w1 ⟨rfl, k1⟩
  have rk0 := oknown_any w1
  clear rh
  go_wp2_with fail
  refine rk0.mono ?_
  rintro e w2 ⟨rfl, k2⟩
  have k12 : Kept (fun k => k < w.heap.size) w w2 := k1.trans (k2.mono fun k h => Nat.lt_of_lt_of_le h k1.size)
  have rg := RG.out w2 k12
  have HK12 : Hid (Kept (fun k => k < w.heap.size) w w2) := k12
  clear rk0 k1 k2 k12 RG
  go_wp2_with fail
  refine rg.mono ?_
  rintro e W ⟨p, r, E, M, R, G, rk, rfl, hG, hK⟩
  have HG : Hid (Grown (fun k => k < w2.heap.size) E W p r M R G rk 300) := hG
  have HKW : Hid (Kept (fun k => k < w.heap.size) w W) := HK12.out.trans (hK.mono fun k h => Nat.lt_of_lt_of_le h HK12.out.size)
  obtain ⟨m, hm⟩ : ∃ m, M.n = m := ⟨_, rfl⟩
  have HM : Hid (M.n = m) := hm
  have hm300 : m ≤ 300 := by have h1 := hG.le; rw [hG.lim, hm] at h1; exact h1
  have hm1 : 1 ≤ m := by rw [← hm]; exact hG.inv.core.pos
  have rl : Calls Tryz.prog 23 #[.pointer (some ⟨p, 0, none⟩)] W fun e w' => e = .returned (.int .i64 (m : Int)) ∧ w' = W := by rw [← hm]; exact hG.len (Kept.refl _ _)
  have NODE : Hid (∀ i, i < m → ∀ X, Kept (fun k => k < W.heap.size) W X → Calls Tryz.prog 24 #[.pointer (some ⟨p, 0, none⟩), .int .i64 (i : Int)] X fun e w' => Told X (M.nd i) (M.pl i).up (R i) e w') := fun i hi X hX => hG.node (by decide) (by rw [hm]; exact hi) hX
  obtain ⟨i, hi⟩ : ∃ i, za % m = i := ⟨_, rfl⟩
  have him : i < m := by rw [← hi]; exact Nat.mod_lt _ (by omega)
  have hi' : (za : Int).tmod (m : Int) = (i : Int) := by rw [← hi]; rfl
  have hin : i < M.n := by rw [hm]; exact him
  obtain ⟨t, htn, hT, -⟩ := hG.inv.topT _ i (Nat.lt_succ_self _) hin
  obtain ⟨s, hsn, hS, -⟩ := hG.inv.good.top _ i (Nat.lt_succ_self _) hin
  have rt := hG.top (by decide) hin hT (Kept.refl _ W)
  have ALL : Hid (∀ X, Kept (fun k => k < W.heap.size) W X → Calls Tryz.prog 28 #[.pointer (some ⟨p, 0, none⟩), .int .i64 (t : Int)] X (Lst X (tr M.n (fwd M R) t))) := fun X hX => by rw [← trI_in htn]; exact hG.all (by decide) (t : Int) hX
  have TOPX : Hid (∀ x ∈ tr M.n (fwd M R) t, ∀ X, Kept (fun k => k < W.heap.size) W X → Calls Tryz.prog 25 #[.pointer (some ⟨p, 0, none⟩), .int .i64 (x : Int)] X fun e w' => e = .returned (.int .i64 (t : Int)) ∧ Kept (fun k => k < X.heap.size) X w') := fun x hx X hX => hG.top (by decide) (tr_lt hG.inv.falls _ t htn x hx) (up_topT hG.inv htn (topT_self hT) ((mem_tr hG.inv.falls htn).1 hx)) hX
  have TOPI : Hid (∀ X, Kept (fun k => k < W.heap.size) W X → Calls Tryz.prog 25 #[.pointer (some ⟨p, 0, none⟩), .int .i64 (i : Int)] X fun e w' => e = .returned (.int .i64 (t : Int)) ∧ Kept (fun k => k < X.heap.size) X w') := fun X hX => hG.top (by decide) hin hT hX
  have ROOTI : Hid (∀ X, Kept (fun k => k < W.heap.size) W X → Calls Tryz.prog 26 #[.pointer (some ⟨p, 0, none⟩), .int .i64 (i : Int)] X fun e w' => e = .returned (.int .i64 (s : Int)) ∧ Kept (fun k => k < X.heap.size) X w') := fun X hX => hG.root (by decide) hin hS hX
  have NS : Hid (∀ X, Kept (fun k => k < W.heap.size) W X → Calls Tryz.prog 24 #[.pointer (some ⟨p, 0, none⟩), .int .i64 (s : Int)] X fun e w' => Told X (M.nd s) (M.pl s).up (R s) e w') := fun X hX => hG.node (by decide) hsn hX
  have HCNT : Hid ((tr M.n (fwd M R) t).count i = 1) := by
    have h1 := tr_nodup hG.inv.only _ t htn (Nat.lt_succ_self _)
    have h2 := (mem_tr hG.inv.falls htn).2 (topT_up hG.inv hT hin)
    rw [h1.count, if_pos h2]
    exact rfl
  have HTL : Hid ((tr M.n (fwd M R) t).length ≤ 300) := by have h1 := tr_len hG.inv.only htn; have h2 := hm300; rw [← hm] at h2; exact (show Hid _ from Nat.le_trans h1 h2)
  obtain ⟨T, hTT⟩ : ∃ T, tr M.n (fwd M R) t = T := ⟨_, rfl⟩
  rw [hTT] at ALL TOPX HCNT HTL
  clear rg hG hK hm hi NODE hin htn hT hS hsn hTT
  go_upto_region 7 with (go_at_call 23; refine rl.mono ?_; rintro e1 w3 ⟨rfl, hw3⟩; replace hw3 := hw3.symm; subst hw3)
  clear rl
  go_wp2_with fail
  refine rt.mono ?_
  rintro e u1 ⟨rfl, hk1⟩
  have ra := ALL.out u1 hk1
  have HK1 : Hid (Kept (fun k => k < W.heap.size) W u1) := hk1
  clear rt hk1
  go_wp2_with fail
  refine ra.mono ?_
  rintro e U ⟨ao, cp, rfl, hO, hk2⟩
  have HROW : Hid (IntsAt (fun g => g < U.heap.size) U ao T) := hO.intsAt fun g hg => (hO.out hg).2
  have HKU : Hid (Kept (fun k => k < W.heap.size) W U) := HK1.out.trans (hk2.mono fun k h => Nat.lt_of_lt_of_le h HK1.out.size)
  obtain ⟨tl, htl⟩ : ∃ tl, T.length = tl := ⟨_, rfl⟩
  have HTLN : Hid (T.length = tl) := htl
  have htl3 : tl ≤ 300 := by rw [← htl]; exact HTL.out
  rw [htl]
  clear ra hO hk2 htl
  go_upto_region 10 with fail
  go_loopg [9, 10] tl (fun gh v9 v10 wr => ∃ j : Nat, gh = tl - j ∧ j ≤ tl ∧ v10 = .int .i64 (j : Int) ∧ v9 = .int .i64 ((T.take j).count i : Int) ∧ Kept (fun k => k < U.heap.size) U wr)
  case atStart => exact ⟨0, rfl, Nat.zero_le _, rfl, rfl, Kept.refl _ _⟩
  case round =>
    obtain ⟨j, hgj, hj, rfl, rfl, hK2⟩ := hrel
    have HK2 : Hid (Kept (fun k => k < U.heap.size) U wr) := hK2
    have kW : Kept (fun k => k < W.heap.size) W wr := HKU.out.trans (hK2.mono fun k h => Nat.lt_of_lt_of_le h HKU.out.size)
    have HKW2 : Hid (Kept (fun k => k < W.heap.size) W wr) := kW
    by_cases hlt : j < tl
    · have hjT : j < T.length := by rw [HTLN.out]; exact hlt
      obtain ⟨g, o, rfl, hg, d⟩ := HROW.out j hjT
      have d1 : wr.cell? ⟨g, o + j, none⟩ = some (iv T[j]) := (hK2.cell (p := ⟨g, o + j, none⟩) hg).trans d
      have hct := count_take_succ T i j hjT
      have hmem := List.getElem_mem hjT
      obtain ⟨y, hy⟩ : ∃ y, T[j] = y := ⟨_, rfl⟩
      rw [hy] at d1 hct hmem
      have d2 : wr.cell? ⟨g, o + j, none⟩ = some (.int .i64 (y : Int)) := d1
      have rx := TOPX.out y hmem wr kW
      have hle : (T.take (j + 1)).count i ≤ T.count i := (List.take_sublist _ _).count_le i
      rw [HCNT.out] at hle
      obtain ⟨cn, hcn⟩ : ∃ cn, (T.take j).count i = cn := ⟨_, rfl⟩
      rw [hcn] at hct ⊢
      by_cases q : y = i
      · subst q
        rw [if_pos rfl] at hct
        have HCT : Hid ((T.take (j + 1)).count y = cn + 1) := hct
        have hcb : cn ≤ 1 := by omega
        clear d d1 hct hle hcn hy hmem hK2 kW
        go_upto_region 14 with fail
        go_wp2_with fail
        refine rx.mono ?_
        rintro e u2 ⟨rfl, hk3⟩
        have k3 : Kept (fun k => k < W.heap.size) W u2 := HKW2.out.trans (hk3.mono fun k h => Nat.lt_of_lt_of_le h HKW2.out.size)
        have ri := TOPI.out u2 k3
        have HK3 : Hid (Kept (fun k => k < U.heap.size) U u2) := HK2.out.trans (hk3.mono fun k h => Nat.lt_of_lt_of_le h HK2.out.size)
        clear rx hk3 k3
        go_wp2_with (go_at_call 25; refine ri.mono ?_; rintro e u3 ⟨rfl, hk4⟩)
        go_roundg (tl - (j + 1))
        case rel => exact ⟨j + 1, rfl, by omega, by go_num, by rw [HCT.out]; go_num, HK3.out.trans (hk4.mono fun k h => Nat.lt_of_lt_of_le h HK3.out.size)⟩
        case measure => omega
      · rw [if_neg q, Nat.add_zero] at hct
        have HCT : Hid ((T.take (j + 1)).count i = cn) := hct
        have eq1 : ((y : Int) == (i : Int)) = false := by
          have : ¬ (y : Int) = (i : Int) := by omega
          simpa using this
        clear d d1 hct hle hcn hy hmem hK2 kW
        go_upto_region 14 with fail
        go_wp2_with fail
        refine rx.mono ?_
        rintro e u2 ⟨rfl, hk3⟩
        have k3 : Kept (fun k => k < W.heap.size) W u2 := HKW2.out.trans (hk3.mono fun k h => Nat.lt_of_lt_of_le h HKW2.out.size)
        have ri := TOPI.out u2 k3
        have HK3 : Hid (Kept (fun k => k < U.heap.size) U u2) := HK2.out.trans (hk3.mono fun k h => Nat.lt_of_lt_of_le h HK2.out.size)
        clear rx hk3 k3
        go_wp2_with (go_at_call 25; refine ri.mono ?_; rintro e u3 ⟨rfl, hk4⟩)
        go_roundg (tl - (j + 1))
        case rel => exact ⟨j + 1, rfl, by omega, by go_num, by rw [HCT.out], HK3.out.trans (hk4.mono fun k h => Nat.lt_of_lt_of_le h HK3.out.size)⟩
        case measure => omega
    · have hjn : tl = j := by omega
      subst hjn
      have hall : T.take tl = T := List.take_of_length_le (by rw [HTLN.out]; exact Nat.le_refl _)
      rw [hall, HCNT.out]
      have rr := ROOTI.out wr kW
      clear hall hK2 kW
      go_wp2_with fail
      refine rr.mono ?_
      rintro e u2 ⟨rfl, hk3⟩
      have k3 : Kept (fun k => k < W.heap.size) W u2 := HKW2.out.trans (hk3.mono fun k h => Nat.lt_of_lt_of_le h HKW2.out.size)
      have rn := NS.out u2 k3
      have HK3 : Hid (Kept (fun k => k < w.heap.size) w u2) := HKW.out.trans (k3.mono fun k h => Nat.lt_of_lt_of_le h HKW.out.size)
      clear rr hk3 k3
      go_wp2_with fail
      refine rn.mono ?_
      rintro e u3 ⟨ao1, ac1, ko1, kc1, rfl, -, -, hKa⟩
      have HK4 : Hid (∀ o, Kept (fun k => k < w.heap.size) w (u3.alloc o)) := fun o => (HK3.out.trans (hKa.mono fun k h => Nat.lt_of_lt_of_le h HK3.out.size)).alloc (fun k h => Nat.lt_of_lt_of_le h (Nat.le_trans HK3.out.size hKa.size)) o
      clear rn hKa
      go_wp2
      go_ret
      exact ⟨rfl, HK4.out _⟩
set_option maxRecDepth 20000 in
theorem oall_no (a : Option Addr) (n c : Nat) (w : World) (za : Int) (rh : Calls Tryz.prog 20 #[.slice a n c] w fun e w' => e = .returned (.bool true) ∧ Kept (fun k => k < w.heap.size) w w') :
    Calls Tryz.prog 7 #[.slice a n c, .int .u16 za] w fun e w' => e = .returned (.bool true) ∧ Kept (fun k => k < w.heap.size) w w' := by
  go_enter Tryz.func7, Tryz.ntmps7
  go_wp2_with fail
  refine rh.mono ?_
  rintro e w1 ⟨rfl, k1⟩
  have rk0 := oknown_any w1
  clear rh
  go_wp2_with (go_at_call 21; refine rk0.mono ?_; rintro e w2 ⟨rfl, k2⟩)
  go_ret
  exact ⟨rfl, k1.trans (k2.mono fun k h => Nat.lt_of_lt_of_le h k1.size)⟩
end Go.Proofs.YtbhfnbplbkncmaaGreat
