/-
  The walk of OrderAhead.
-/
import Derived.Test.YtbhfnbplbkncmaaGreatVOAUadMg
namespace Go.Proofs.YtbhfnbplbkncmaaGreat
open Go.RowKit Go.Sort
set_option linter.unusedVariables false
section
variable {n : Nat} {F : Nat → List Nat} {rk : Nat → Nat}
theorem tr_block (h : Only n F rk) {s i : Nat} (hs : s < n) (hu : Up n F s i) : i < n ∧ ∃ q r, tr n F s = q ++ (tr n F i ++ r) := by
  induction hu with
  | here => exact ⟨hs, [], [], by rw [List.nil_append, List.append_nil]⟩
  | @up x y hy hm _ ih =>
    obtain ⟨_, q, r, e⟩ := ih
    obtain ⟨A, B, hAB⟩ := List.append_of_mem hm
    refine ⟨(h.falls y hy x hm).1, q ++ (y :: A.flatMap (tr n F)), B.flatMap (tr n F) ++ r, ?_⟩
    rw [e, tr_eq h.falls hy, hAB, List.flatMap_append, List.flatMap_cons]
    simp only [List.append_assoc, List.cons_append]
theorem firstL_one {a b : Int} (hne : a ≠ b) : ∀ (l : List Nat), firstL a b l = true → firstL b a l = false
  | [], h => by cases h
  | x :: r, h => by
    unfold firstL at h ⊢
    by_cases c : (x : Int) = a ∨ (x : Int) = b
    · rw [if_pos c] at h
      rw [if_pos c.symm]
      have := of_decide_eq_true h
      exact decide_eq_false (by omega)
    · rw [if_neg c] at h
      rw [if_neg (fun e => c e.symm)]
      exact firstL_one hne r h
theorem firstL_or {a b : Int} : ∀ (l : List Nat) (x : Nat), x ∈ l → (x : Int) = a → firstL a b l = false → firstL b a l = true
  | [], x, h, _, _ => by cases h
  | y :: r, x, h, e, hf => by
    unfold firstL at hf ⊢
    by_cases c : (y : Int) = a ∨ (y : Int) = b
    · rw [if_pos c] at hf
      rw [if_pos c.symm]
      have := of_decide_eq_false hf
      exact decide_eq_true (by omega)
    · rw [if_neg c] at hf
      rw [if_neg (fun e => c e.symm)]
      refine firstL_or r x ?_ e hf
      rcases List.mem_cons.1 h with q | q
      · subst q; exact absurd (.inl e) c
      · exact q
/-- One within another comes behind it. -/
theorem firstL_in (h : Only n F rk) {s i k : Nat} (hs : s < n) (hu : Up n F s i) (hk : k ∈ tr n F i) : firstL (i : Int) (k : Int) (tr n F s) = true := by
  obtain ⟨hi, q, r, e⟩ := tr_block h hs hu
  have hnd := tr_nodup h _ s hs (Nat.lt_succ_self _)
  rw [e] at hnd ⊢
  have hd : ∀ y ∈ q, y ∉ tr n F i := fun y hy hy' => (List.nodup_append.1 hnd).2.2 y hy y (List.mem_append_left _ hy') rfl
  have hii : i ∈ tr n F i := (mem_tr h.falls hi).2 .here
  have e2 := tr_eq h.falls hi
  rw [e2, List.cons_append]
  rw [firstL_at _ (fun y hy c => ?_) (.inl rfl), decide_eq_true rfl]
  rcases c with c | c
  · have : y = i := by omega
    subst this
    exact hd y hy hii
  · have : y = k := by omega
    subst this
    exact hd y hy hk
end
section
variable {M : Dm} {R G : Nat → List Nat} {rk : Nat → Nat}
theorem top_upR (h : Good M R rk) {i t : Nat} (hT : TopOf M i t) : i < M.n → Up M.n R t i := by
  induction hT with
  | here _ => exact fun _ => .here
  | @up k m t e _ ih =>
    intro hk
    obtain ⟨hm, _⟩ := h.rk_up hk e
    rcases h.wf.inn k hk with e' | ⟨u, hu, e', hmem⟩
    · omega
    · have : u = m := by omega
      subst this
      exact .up hm hmem (ih hm)
theorem up_topR (h : Good M R rk) {i k : Nat} (hu : Up M.n R i k) : ∀ {t}, TopOf M i t → TopOf M k t := by
  induction hu with
  | here => exact fun h => h
  | @up x y hy hm _ ih => exact fun hT => .up (h.kid hy hm).2.1 (ih hT)
/-- Of two nodes of one tree one is ahead; a node is ahead of all within it. -/
theorem ahead_key (h : Good M R rk) {i k s u : Nat} (hi : i < M.n) (hk : k < M.n) (hs : TopOf M i s) (hsn : s < M.n) (hu : TopOf M k u) (hun : u < M.n) (S : List Nat) (hT : tr M.n R i = i :: S) :
    ∀ x y, befB M R (i : Int) (k : Int) (s : Int) (u : Int) = x → befB M R (k : Int) (i : Int) (u : Int) (s : Int) = y →
    (i = k ∧ s = u ∧ x = false ∧ y = false ∧ k ∉ S) ∨ (i ≠ k ∧ s ≠ u ∧ x = false ∧ y = false ∧ k ∉ S) ∨ (i ≠ k ∧ s = u ∧ x = true ∧ y = false) ∨ (i ≠ k ∧ s = u ∧ x = false ∧ y = true ∧ k ∉ S) := by
  intro x y hx hy
  have hnd := tr_nodup h.only _ i hi (Nat.lt_succ_self _)
  rw [hT] at hnd
  have hnd := List.nodup_cons.1 hnd
  have hin : k ∈ S → Up M.n R i k := fun q => (mem_tr h.falls hi).1 (by rw [hT]; exact List.mem_cons_of_mem _ q)
  unfold befB at hx hy
  by_cases c : i = k
  · subst c
    rw [beq_self_eq_true] at hx hy
    exact .inl ⟨rfl, hs.one hu, hx.symm, hy.symm, hnd.1⟩
  · have c1 : ((i : Int) == (k : Int)) = false := by
      have : ¬ (i : Int) = (k : Int) := by omega
      simpa using this
    have c2 : ((k : Int) == (i : Int)) = false := by
      have : ¬ (k : Int) = (i : Int) := by omega
      simpa using this
    rw [c1, Bool.not_false, Bool.true_and] at hx
    rw [c2, Bool.not_false, Bool.true_and] at hy
    by_cases d : s = u
    · subst d
      rw [beq_self_eq_true, Bool.true_and, trI_in hsn] at hx hy
      have hui := top_upR h hs hi
      by_cases f : firstL (i : Int) (k : Int) (tr M.n R s) = true
      · rw [f] at hx
        rw [firstL_one (by omega) _ f] at hy
        exact .inr (.inr (.inl ⟨c, rfl, hx.symm, hy.symm⟩))
      · have f' : firstL (i : Int) (k : Int) (tr M.n R s) = false := Bool.eq_false_iff.2 f
        rw [f'] at hx
        rw [firstL_or _ i ((mem_tr h.falls hsn).2 hui) rfl f'] at hy
        refine .inr (.inr (.inr ⟨c, rfl, hx.symm, hy.symm, fun q => ?_⟩))
        exact f (firstL_in h.only hsn hui ((mem_tr h.falls hi).2 (hin q)))
    · have d1 : ((s : Int) == (u : Int)) = false := by
        have : ¬ (s : Int) = (u : Int) := by omega
        simpa using this
      have d2 : ((u : Int) == (s : Int)) = false := by
        have : ¬ (u : Int) = (s : Int) := by omega
        simpa using this
      rw [d1, Bool.false_and] at hx
      rw [d2, Bool.false_and] at hy
      exact .inr (.inl ⟨c, d, hx.symm, hy.symm, fun q => d ((up_topR h (hin q) hs).one hu)⟩)
end
section
variable {K E : Nat → Prop} {w : World} {p r : Nat} {M : Dm} {R G : Nat → List Nat} {rk : Nat → Nat} {lim : Nat}
theorem Grown.before (h : Grown K E w p r M R G rk lim) (hl : lim ≤ 100000) {i k s u : Nat} (hi : i < M.n) (hk' : k < M.n) (hs : TopOf M i s) (hsn : s < M.n) (hu : TopOf M k u) (hun : u < M.n) {X : World} (hk : Kept (fun k => k < w.heap.size) w X) :
    Calls Tryz.prog 34 #[.pointer (some ⟨p, 0, none⟩), .int .i64 (i : Int), .int .i64 (k : Int)] X fun e w' => e = .returned (.bool (befB M R (i : Int) (k : Int) (s : Int) (u : Int))) ∧ Kept (fun k => k < X.heap.size) X w' :=
  before_any _ p M R rk X (h.two.d.kept hk) h.inv.good (h.nle hl) _ _ _ _ (.inr ⟨i, s, hi, rfl, hs, hsn, rfl⟩) (.inr ⟨k, u, hk', rfl, hu, hun, rfl⟩)
end
set_option maxRecDepth 20000 in
set_option maxHeartbeats 8000000 in
theorem oah_go (l : List Opx) (n : Nat) (hln : l.length = n) (hnn : n ≤ 60) (a : Option Addr) (c : Nat) (hok : ∀ o ∈ l, OpOk o) (hb : opsH l ≤ 6000) (w : World) (h : OpsAt (fun k => k < w.heap.size) w a l) (za zb : Nat) (hza : za < 65536) (hzb : zb < 65536) :
    Calls Tryz.prog 6 #[.slice a n c, .int .u16 (za : Int), .int .u16 (zb : Int)] w fun e w' => e = .returned (.bool true) ∧ Kept (fun k => k < w.heap.size) w w' := by
  have rh := heavy9_any l n hln hnn a c (by omega) w h
  rw [decide_eq_false (by omega : ¬ 6000 < opsH l)] at rh
  have RG : Hid (∀ X, Kept (fun k => k < w.heap.size) w X → Calls Tryz.prog 22 #[.slice a n c] X fun e w' => ∃ p r E M R G rk, e = .returned (.tuple #[.pointer (some ⟨p, 0, none⟩), .pointer (some ⟨r, 0, none⟩)]) ∧ Grown (fun k => k < X.heap.size) E w' p r M R G rk 300 ∧ Kept (fun k => k < X.heap.size) X w') := fun X hX => grown9 l n hln (by omega) a c hok (by omega) X (h.kept hX fun g hg => Nat.lt_of_lt_of_le hg hX.size)
  clear hln hok hb h
  go_enter Tryz.func6, Tryz.ntmps6
  go_wp2_with fail
  refine rh.mono ?_
  rintro e w1 ⟨rfl, k1⟩
  have rk0 := oknown_any w1
  clear rh
  go_wp2_with fail
  refine rk0.mono ?_
  rintro e w2 ⟨rfl, k2⟩
  have k12 : Kept (fun k => k < w.heap.size) w w2 := k1.trans (k2.mono fun k h => Nat.lt_of_lt_of_le h k1.size)
  have rg := RG.out w2 k12
  have HK12 : Hid (Kept (fun k => k < w.heap.size) w w2) := k12
  clear rk0 k1 k2 k12 RG
  go_wp2_with fail
  refine rg.mono ?_
  rintro e W ⟨p, r, E, M, R, G, rk, rfl, hG, hK⟩
  have HG : Hid (Grown (fun k => k < w2.heap.size) E W p r M R G rk 300) := hG
  have HKW : Hid (Kept (fun k => k < w.heap.size) w W) := HK12.out.trans (hK.mono fun k h => Nat.lt_of_lt_of_le h HK12.out.size)
  obtain ⟨m, hm⟩ : ∃ m, M.n = m := ⟨_, rfl⟩
  have HM : Hid (M.n = m) := hm
  have hm300 : m ≤ 300 := by have h1 := hG.le; rw [hG.lim, hm] at h1; exact h1
  have hm1 : 1 ≤ m := by rw [← hm]; exact hG.inv.core.pos
  have rl : Calls Tryz.prog 23 #[.pointer (some ⟨p, 0, none⟩)] W fun e w' => e = .returned (.int .i64 (m : Int)) ∧ w' = W := by rw [← hm]; exact hG.len (Kept.refl _ _)
  have NODE : Hid (∀ i, i < m → ∀ X, Kept (fun k => k < W.heap.size) W X → Calls Tryz.prog 24 #[.pointer (some ⟨p, 0, none⟩), .int .i64 (i : Int)] X fun e w' => Told X (M.nd i) (M.pl i).up (R i) e w') := fun i hi X hX => hG.node (by decide) (by rw [hm]; exact hi) hX
  obtain ⟨i, hi⟩ : ∃ i, za % m = i := ⟨_, rfl⟩
  have him : i < m := by rw [← hi]; exact Nat.mod_lt _ (by omega)
  have hi' : (za : Int).tmod (m : Int) = (i : Int) := by rw [← hi]; rfl
  have hin : i < M.n := by rw [hm]; exact him
  obtain ⟨k, hk⟩ : ∃ k, zb % m = k := ⟨_, rfl⟩
  have hkm : k < m := by rw [← hk]; exact Nat.mod_lt _ (by omega)
  have hk' : (zb : Int).tmod (m : Int) = (k : Int) := by rw [← hk]; rfl
  have hkn : k < M.n := by rw [hm]; exact hkm
  obtain ⟨s, hsn, hS, -⟩ := hG.inv.good.top _ i (Nat.lt_succ_self _) hin
  obtain ⟨u, hun, hU, -⟩ := hG.inv.good.top _ k (Nat.lt_succ_self _) hkn
  have BIK : Hid (∀ X, Kept (fun k => k < W.heap.size) W X → Calls Tryz.prog 34 #[.pointer (some ⟨p, 0, none⟩), .int .i64 (i : Int), .int .i64 (k : Int)] X fun e w' => e = .returned (.bool (befB M R (i : Int) (k : Int) (s : Int) (u : Int))) ∧ Kept (fun k => k < X.heap.size) X w') := fun X hX => hG.before (by decide) hin hkn hS hsn hU hun hX
  have BKI : Hid (∀ X, Kept (fun k => k < W.heap.size) W X → Calls Tryz.prog 34 #[.pointer (some ⟨p, 0, none⟩), .int .i64 (k : Int), .int .i64 (i : Int)] X fun e w' => e = .returned (.bool (befB M R (k : Int) (i : Int) (u : Int) (s : Int))) ∧ Kept (fun k => k < X.heap.size) X w') := fun X hX => hG.before (by decide) hkn hin hU hun hS hsn hX
  have ROOTI : Hid (∀ X, Kept (fun k => k < W.heap.size) W X → Calls Tryz.prog 26 #[.pointer (some ⟨p, 0, none⟩), .int .i64 (i : Int)] X fun e w' => e = .returned (.int .i64 (s : Int)) ∧ Kept (fun k => k < X.heap.size) X w') := fun X hX => hG.root (by decide) hin hS hX
  have ROOTK : Hid (∀ X, Kept (fun k => k < W.heap.size) W X → Calls Tryz.prog 26 #[.pointer (some ⟨p, 0, none⟩), .int .i64 (k : Int)] X fun e w' => e = .returned (.int .i64 (u : Int)) ∧ Kept (fun k => k < X.heap.size) X w') := fun X hX => hG.root (by decide) hkn hU hX
  have TREE : Hid (∀ X, Kept (fun k => k < W.heap.size) W X → Calls Tryz.prog 27 #[.pointer (some ⟨p, 0, none⟩), .int .i64 (i : Int)] X (Lst X (tr M.n R i))) := fun X hX => by rw [← trI_in hin]; exact hG.tree (by decide) (i : Int) hX
  have HTL : Hid ((tr M.n R i).length ≤ 300) := by have h1 := tr_len hG.inv.good.only hin; have h2 := hm300; rw [← hm] at h2; exact (show Hid _ from Nat.le_trans h1 h2)
  obtain ⟨S, hTS⟩ : ∃ S, tr M.n R i = i :: S := ⟨_, tr_eq hG.inv.good.falls hin⟩
  have KEY := ahead_key hG.inv.good hin hkn hS hsn hU hun S hTS _ _ rfl rfl
  obtain ⟨x, hx⟩ : ∃ x, befB M R (i : Int) (k : Int) (s : Int) (u : Int) = x := ⟨_, rfl⟩
  obtain ⟨y, hy⟩ : ∃ y, befB M R (k : Int) (i : Int) (u : Int) (s : Int) = y := ⟨_, rfl⟩
  rw [hx, hy] at KEY
  rw [hx] at BIK
  rw [hy] at BKI
  rw [hTS] at TREE HTL
  have HKEY : Hid ((i = k ∧ s = u ∧ x = false ∧ y = false ∧ k ∉ S) ∨ (i ≠ k ∧ s ≠ u ∧ x = false ∧ y = false ∧ k ∉ S) ∨ (i ≠ k ∧ s = u ∧ x = true ∧ y = false) ∨ (i ≠ k ∧ s = u ∧ x = false ∧ y = true ∧ k ∉ S)) := KEY
  have hs300 : s < 300 := by rw [hm] at hsn; omega
  have hu300 : u < 300 := by rw [hm] at hun; omega
  have rb := BIK.out W (Kept.refl _ _)
  clear rg hG hK hm hi hk NODE hin hkn hS hsn hU hun hTS KEY hx hy
  go_upto_region 7 with (go_at_call 23; refine rl.mono ?_; rintro e1 w3 ⟨rfl, hw3⟩; replace hw3 := hw3.symm; subst hw3)
  go_upto_region 8 with (go_at_call 23; refine rl.mono ?_; rintro e1 w3 ⟨rfl, hw3⟩; replace hw3 := hw3.symm; subst hw3)
  clear rl
  go_wp2_with fail
  refine rb.mono ?_
  rintro e u1 ⟨rfl, hk1⟩
  have HK1 : Hid (Kept (fun k => k < W.heap.size) W u1) := hk1
  have rb2 := BKI.out u1 hk1
  clear rb hk1
  go_wp2_with fail
  refine rb2.mono ?_
  rintro e u2 ⟨rfl, hk1⟩
  have hk2 : Kept (fun k => k < W.heap.size) W u2 := HK1.out.trans (hk1.mono fun k h => Nat.lt_of_lt_of_le h HK1.out.size)
  have HK2 : Hid (Kept (fun k => k < W.heap.size) W u2) := hk2
  have rr := ROOTI.out u2 hk2
  clear rb2 hk1 hk2
  go_wp2_with fail
  refine rr.mono ?_
  rintro e u3 ⟨rfl, hk1⟩
  have hk3 : Kept (fun k => k < W.heap.size) W u3 := HK2.out.trans (hk1.mono fun k h => Nat.lt_of_lt_of_le h HK2.out.size)
  have HK3 : Hid (Kept (fun k => k < W.heap.size) W u3) := hk3
  have rr2 := ROOTK.out u3 hk3
  clear rr hk1 hk3
  go_wp2_with fail
  refine rr2.mono ?_
  rintro e u4 ⟨rfl, hk1⟩
  have hk4 : Kept (fun k => k < W.heap.size) W u4 := HK3.out.trans (hk1.mono fun k h => Nat.lt_of_lt_of_le h HK3.out.size)
  have HK4 : Hid (Kept (fun k => k < W.heap.size) W u4) := hk4
  have rt := TREE.out u4 hk4
  clear rr2 hk1 hk4
  go_wp2_with fail
  refine rt.mono ?_
  rintro e U ⟨ao, cp, rfl, hO, hk2⟩
  have HROW : Hid (IntsAt (fun g => g < U.heap.size) U ao (i :: S)) := hO.intsAt fun g hg => (hO.out hg).2
  have HKU : Hid (Kept (fun k => k < w.heap.size) w U) := HKW.out.trans ((HK4.out.trans (hk2.mono fun k h => Nat.lt_of_lt_of_le h HK4.out.size)).mono fun k h => Nat.lt_of_lt_of_le h HKW.out.size)
  obtain ⟨sl, hsl⟩ : ∃ sl, S.length = sl := ⟨_, rfl⟩
  have HSL : Hid (S.length = sl) := hsl
  have hlen : (i :: S).length = sl + 1 := by rw [List.length_cons, hsl]
  have hsl3 : sl + 1 ≤ 300 := by rw [← hlen]; exact HTL.out
  rw [hlen]
  obtain ⟨g, o, hao, hg0, d0⟩ := HROW.out 0 (Nat.succ_pos _)
  subst hao
  have D0 : Hid (U.cell? ⟨g, o + 0, none⟩ = some (.int .i64 (i : Int))) := d0
  clear rt hO hk2 hsl hlen d0
  go_upto_region 14 with fail
  go_loopg [15, 16] sl (fun gh v15 v16 wr => ∃ q : Nat, gh = sl - q ∧ q ≤ sl ∧ v16 = .int .i64 ((q : Int) + 1) ∧ v15 = .bool (decide (k ∈ S.take q)) ∧ Kept (fun k => k < U.heap.size) U wr)
  case atStart => exact ⟨0, rfl, Nat.zero_le _, rfl, rfl, Kept.refl _ _⟩
  case round =>
    obtain ⟨q, hgq, hq, rfl, rfl, hK2⟩ := hrel
    have HK5 : Hid (Kept (fun k => k < U.heap.size) U wr) := hK2
    by_cases hlt : q < sl
    · have hqS : q < S.length := by rw [HSL.out]; exact hlt
      have hqT : q + 1 < (i :: S).length := Nat.succ_lt_succ hqS
      obtain ⟨g', o', hao, hg, d⟩ := HROW.out (q + 1) hqT
      obtain ⟨rfl, rfl⟩ : g = g' ∧ o = o' := by injection hao with h1; injection h1 with h2 h3 h4; exact ⟨h2, h3⟩
      obtain ⟨z, hz⟩ : ∃ z, S[q] = z := ⟨_, rfl⟩
      have d1 : wr.cell? ⟨g, o + (q + 1), none⟩ = some (.int .i64 (z : Int)) := by rw [← hz]; exact (hK2.cell (p := ⟨g, o + (q + 1), none⟩) hg).trans d
      have hct : decide (k ∈ S.take (q + 1)) = (decide (k ∈ S.take q) || decide (z = k)) := by
        apply Bool.eq_iff_iff.2
        rw [Bool.or_eq_true, decide_eq_true_iff, decide_eq_true_iff, decide_eq_true_iff, List.take_succ_eq_append_getElem hqS, hz, List.mem_append, List.mem_singleton]
        exact or_congr Iff.rfl eq_comm
      obtain ⟨nn, hnn'⟩ : ∃ nn, decide (k ∈ S.take q) = nn := ⟨_, rfl⟩
      rw [hnn'] at hct ⊢
      have HCT : Hid (decide (k ∈ S.take (q + 1)) = (nn || decide (z = k))) := hct
      clear hct hnn' hz hao d hK2
      cases nn
      · by_cases e : z = k
        · subst e
          go_wp2_with fail
          go_roundg (sl - (q + 1))
          case rel => exact ⟨q + 1, rfl, by omega, by go_num, by rw [HCT.out]; simp, HK5.out⟩
          case measure => omega
        · have eq1 : ((z : Int) == (k : Int)) = false := by
            have : ¬ (z : Int) = (k : Int) := by omega
            simpa using this
          have HE : Hid (decide (z = k) = false) := decide_eq_false e
          clear e
          go_wp2_with fail
          go_roundg (sl - (q + 1))
          case rel => exact ⟨q + 1, rfl, by omega, by go_num, by rw [HCT.out]; rw [HE.out]; rfl, HK5.out⟩
          case measure => omega
      · clear d1
        go_wp2_with fail
        go_roundg (sl - (q + 1))
        case rel => exact ⟨q + 1, rfl, by omega, by go_num, by rw [HCT.out]; rfl, HK5.out⟩
        case measure => omega
    · have hjn : q = sl := by omega
      subst hjn
      have hall : S.take q = S := List.take_of_length_le (by rw [HSL.out]; exact Nat.le_refl _)
      rw [hall]
      have d1 : wr.cell? ⟨g, o, none⟩ = some (.int .i64 (i : Int)) := (hK2.cell (p := ⟨g, o, none⟩) hg0).trans D0.out
      have HKE : Hid (Kept (fun k => k < w.heap.size) w wr) := HKU.out.trans (hK2.mono fun k h => Nat.lt_of_lt_of_le h HKU.out.size)
      clear hall hK2
      rcases HKEY.out with ⟨rfl, rfl, rfl, rfl, hkS⟩ | ⟨e1, e2, rfl, rfl, hkS⟩ | ⟨e1, rfl, rfl, rfl⟩ | ⟨e1, rfl, rfl, rfl, hkS⟩
      · rw [decide_eq_false hkS]
        clear hkS
        go_wp2_with fail
        go_ret
        exact ⟨rfl, HKE.out⟩
      · have eq1 : ((i : Int) == (k : Int)) = false := by
          have : ¬ (i : Int) = (k : Int) := by omega
          simpa using this
        have eq2 : ((s : Int) == (u : Int)) = false := by
          have : ¬ (s : Int) = (u : Int) := by omega
          simpa using this
        rw [decide_eq_false hkS]
        clear hkS
        have e3 : ¬ (i : Int) = (k : Int) := by omega
        go_wp2_with fail
        go_ret
        exact ⟨rfl, HKE.out⟩
      · have eq1 : ((i : Int) == (k : Int)) = false := by
          have : ¬ (i : Int) = (k : Int) := by omega
          simpa using this
        obtain ⟨nn, hnn'⟩ : ∃ nn, decide (k ∈ S) = nn := ⟨_, rfl⟩
        rw [hnn']
        clear hnn'
        have e3 : ¬ (i : Int) = (k : Int) := by omega
        cases nn
        · go_wp2_with fail
          go_ret
          refine ⟨?_, HKE.out⟩
          simp [e3]
        · go_wp2_with fail
          go_ret
          refine ⟨?_, HKE.out⟩
          simp [e3]
      · have eq1 : ((i : Int) == (k : Int)) = false := by
          have : ¬ (i : Int) = (k : Int) := by omega
          simpa using this
        rw [decide_eq_false hkS]
        clear hkS
        have e3 : ¬ (i : Int) = (k : Int) := by omega
        go_wp2_with fail
        go_ret
        refine ⟨?_, HKE.out⟩
        simp [e3]
set_option maxRecDepth 20000 in
theorem oah_no (a : Option Addr) (n c : Nat) (w : World) (za zb : Int) (rh : Calls Tryz.prog 20 #[.slice a n c] w fun e w' => e = .returned (.bool true) ∧ Kept (fun k => k < w.heap.size) w w') :
    Calls Tryz.prog 6 #[.slice a n c, .int .u16 za, .int .u16 zb] w fun e w' => e = .returned (.bool true) ∧ Kept (fun k => k < w.heap.size) w w' := by
  go_enter Tryz.func6, Tryz.ntmps6
  go_wp2_with fail
  refine rh.mono ?_
  rintro e w1 ⟨rfl, k1⟩
  have rk0 := oknown_any w1
  clear rh
  go_wp2_with (go_at_call 21; refine rk0.mono ?_; rintro e w2 ⟨rfl, k2⟩)
  go_ret
  exact ⟨rfl, k1.trans (k2.mono fun k h => Nat.lt_of_lt_of_le h k1.size)⟩
end Go.Proofs.YtbhfnbplbkncmaaGreat
