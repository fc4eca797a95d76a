/-
  The walk of QueryOrder.
-/
import Derived.Test.YtojbjiopilkbgaaGreatVRo
import Derived.Test.YtojbjiopilkbgaaGreatVNa
import Derived.Lib.QuietBelow
namespace Go.Proofs.YtojbjiopilkbgaaGreat
open Go.RowKit Go.Sort
set_option linter.unusedVariables false
section
variable {n : Nat} {F : Nat → List Nat} {rk : Nat → Nat}
theorem tr_block (h : Only n F rk) {s i : Nat} (hs : s < n) (hu : Up n F s i) : i < n ∧ ∃ q r, tr n F s = q ++ (tr n F i ++ r) := by
  induction hu with
  | here => exact ⟨hs, [], [], by rw [List.nil_append, List.append_nil]⟩
  | @up x y hy hm _ ih =>
    obtain ⟨_, q, r, e⟩ := ih
    obtain ⟨A, B, hAB⟩ := List.append_of_mem hm
    refine ⟨(h.falls y hy x hm).1, q ++ (y :: A.flatMap (tr n F)), B.flatMap (tr n F) ++ r, ?_⟩
    rw [e, ze5 h.falls hy, hAB, List.flatMap_append, List.flatMap_cons]
    simp only [List.append_assoc, List.cons_append]
theorem firstL_sub {x y : Nat} : ∀ (Z : List Nat), Z.Nodup → List.Sublist [x, y] Z → zcp (x : Int) (y : Int) Z = true
  | [], _, h => by cases h
  | z :: Z, hn, h => by
    obtain ⟨h1, h2⟩ := List.nodup_cons.1 hn
    unfold zcp
    cases h with
    | cons _ h =>
      have hx : x ∈ Z := h.subset (by simp)
      have hy : y ∈ Z := h.subset (by simp)
      rw [if_neg (fun e => by
        rcases e with e | e
        · have : z = x := by omega
          exact h1 (this ▸ hx)
        · have : z = y := by omega
          exact h1 (this ▸ hy))]
      exact firstL_sub Z h2 h
    | cons_cons _ h => rw [if_pos (.inl rfl)]; exact decide_eq_true rfl
theorem pair_sub {L : List Nat} {j : Nat} (h1 : 1 ≤ j) (hj : j < L.length) : List.Sublist [L[j - 1]'(by omega), L[j]] L := by
  obtain ⟨m, rfl⟩ : ∃ m, j = m + 1 := ⟨j - 1, by omega⟩
  have e : L.drop m = L[m] :: L[m + 1] :: L.drop (m + 2) := by
    rw [List.drop_eq_getElem_cons (by omega), List.drop_eq_getElem_cons hj]
  refine List.Sublist.trans ?_ (List.drop_sublist m L)
  rw [e]
  exact (List.nil_sublist _).cons_cons _ |>.cons_cons _
end
section
variable {M : Dm} {R G : Nat → List Nat} {rk : Nat → Nat}
theorem top_upR (h : Good M R rk) {i t : Nat} (hT : Zeb M i t) : i < M.n → Up M.n R t i := by
  induction hT with
  | here _ => exact fun _ => .here
  | @up k m t e _ ih =>
    intro hk
    obtain ⟨hm, _⟩ := h.rk_up hk e
    rcases h.wf.inn k hk with e' | ⟨u, hu, e', hmem⟩
    · omega
    · have : u = m := by omega
      subst this
      exact .up hm hmem (ih hm)
theorem up_topR (h : Good M R rk) {i k : Nat} (hu : Up M.n R i k) : ∀ {t}, Zeb M i t → Zeb M k t := by
  induction hu with
  | here => exact fun h => h
  | @up x y hy hm _ ih => exact fun hT => .up (h.kid hy hm).2.1 (ih hT)
/-- Two of one tree, as they follow. -/
theorem bef_sub (h : Good M R rk) {i t x y : Nat} (hi : i < M.n) (hT : Zeb M i t) (ht : t < M.n) (hx : Up M.n R i x) (hy : Up M.n R i y) (hxn : x < M.n) (hyn : y < M.n) (hne : x ≠ y) (hs : List.Sublist [x, y] (tr M.n R i)) : zpx M R (x : Int) (y : Int) (t : Int) (t : Int) = true ∧ Zfd M (x : Int) (t : Int) ∧ Zfd M (y : Int) (t : Int) := by
  refine ⟨?_, .inr ⟨x, t, hxn, rfl, up_topR h hx hT, ht, rfl⟩, .inr ⟨y, t, hyn, rfl, up_topR h hy hT, ht, rfl⟩⟩
  unfold zpx
  have e1 : ((x : Int) == (y : Int)) = false := by rw [beq_eq_false_iff_ne]; omega
  rw [e1, beq_self_eq_true, zdp ht, Bool.not_false, Bool.true_and, Bool.true_and]
  obtain ⟨_, q, r, e⟩ := tr_block h.only ht (top_upR h hT hi)
  refine firstL_sub _ (zgl h.only _ t ht (Nat.lt_succ_self _)) ?_
  rw [e]
  exact hs.trans ((List.sublist_append_left _ _).trans (List.sublist_append_right _ _))
theorem bef_up (h : Good M R rk) {k i t : Nat} (hi : i < M.n) (hT : Zeb M i t) (ht : t < M.n) (hu : Up M.n R k i) (hk : k < M.n) (hne : k ≠ i) : zpx M R (k : Int) (i : Int) (t : Int) (t : Int) = true ∧ Zfd M (k : Int) (t : Int) ∧ Zfd M (i : Int) (t : Int) := by
  have hTk : Zeb M k t := by
    obtain ⟨t', _, hT', _⟩ := h.top _ k (Nat.lt_succ_self _) hk
    have := up_topR h hu hT'
    rw [← this.one hT]; exact hT'
  refine bef_sub h hk hTk ht .here hu hk hi hne ?_
  have hm : i ∈ tr M.n R k := (zjv h.falls hk).2 hu
  rw [ze5 h.falls hk] at hm ⊢
  rcases List.mem_cons.1 hm with e | hm
  · exact absurd e.symm hne
  · exact (List.singleton_sublist.2 hm).cons_cons _
theorem Clo.upw (h : Good M R rk) {nm : List UInt8} {z c : Int} (hc : Clo M nm z c) : ∀ (i : Nat), z = (i : Int) → i < M.n → c = -1 ∨ ∃ k : Nat, k < M.n ∧ c = (k : Int) ∧ zey nm (M.nd k) = true ∧ Up M.n R k i := by
  induction hc with
  | out ho => intro i e hi; omega
  | @here k hk hb =>
    intro i e hi
    have : k = i := by omega
    subst this
    exact .inr ⟨k, hk, rfl, hb, .here⟩
  | @up k c hk hb h2 ih =>
    intro i e hi
    have : k = i := by omega
    subst this
    rcases h.wf.inn k hk with e' | ⟨u, hu, e', hm⟩
    · exact .inl (h2.one (.out (.inl (by omega))))
    · rcases ih u e' hu with h3 | ⟨q, hq, e3, hb3, hU⟩
      · exact .inl h3
      · exact .inr ⟨q, hq, e3, hb3, hU.up hu hm⟩
end
theorem nameB_ne : ∀ k, k < 10 → (zfr k).toList ≠ [42] := by
  intro k hk
  have : k = 0 ∨ k = 1 ∨ k = 2 ∨ k = 3 ∨ k = 4 ∨ k = 5 ∨ k = 6 ∨ k = 7 ∨ k = 8 ∨ k = 9 := by omega
  rcases this with rfl | rfl | rfl | rfl | rfl | rfl | rfl | rfl | rfl | rfl <;> (rw [ByteArray.toList_eq]; decide +kernel)
open Go.Deep in
theorem calls_quietQ {f : FuncId} {args : Array Value} {V : World} {v : Value} (h : ∀ X, Kept (fun k => k < V.heap.size) V X → Calls Tryz.prog f args X fun e w' => e = .returned v ∧ Kept (fun k => k < X.heap.size) X w') (d : Nat) (os : Array Obj) :
    Calls Tryz.prog f args (grow (redrawn V d) os) fun e w'' => e = .returned v ∧ ∃ p : Regrown, w'' = grow (redrawn V p.d) p.os :=
  Calls.regrown_of ((h _ (Below.kept (below_regrown V d os))).mono fun e w' hh => ⟨hh.1, hh.2.below⟩)
set_option maxRecDepth 20000 in
set_option maxHeartbeats 16000000 in
theorem qorder_go (l : List Opx) (n : Nat) (hln : l.length = n) (hnn : n ≤ 60) (a : Option Addr) (c : Nat) (hok : ∀ o ∈ l, Zkz o) (hb : zcd l ≤ 6000) (w : World) (h : Zfo (fun k => k < w.heap.size) w a l) (za : Nat) (hza : za < 65536) (kz : Nat) (hkz : kz < 256) :
    Calls Tryz.prog 10 #[.slice a n c, .int .u16 (za : Int), .int .u8 (kz : Int)] w fun e w' => e = .returned (.bool true) ∧ Kept (fun k => k < w.heap.size) w w' := by
  have RNM : Hid (∀ X, Calls Tryz.prog 37 #[.int .u8 (kz : Int)] X fun e w' => e = .returned (.string (zfr (kz % 10))) ∧ Kept (fun j => j < X.heap.size) X w') := fun X => zg4 kz hkz X
  have hNB := nameB_ne (kz % 10) (Nat.mod_lt _ (by decide))
  obtain ⟨NB, hNBe⟩ : ∃ X, zfr (kz % 10) = X := ⟨_, rfl⟩
  rw [hNBe] at RNM hNB
  have HNB : Hid (NB.toList ≠ [42]) := hNB
  obtain ⟨ky, hky⟩ : ∃ y : Int, (kz : Int) = y := ⟨_, rfl⟩
  rw [hky] at RNM ⊢
  clear hNBe hky hkz hNB
  have rh := zbw l n hln hnn a c (by omega) w h
  rw [decide_eq_false (by omega : ¬ 6000 < zcd l)] at rh
  have RG : Hid (∀ X, Kept (fun k => k < w.heap.size) w X → Calls Tryz.prog 36 #[.slice a n c] X fun e w' => ∃ p r E M R G rk, e = .returned (.tuple #[.pointer (some ⟨p, 0, none⟩), .pointer (some ⟨r, 0, none⟩)]) ∧ Grown (fun k => k < X.heap.size) E w' p r M R G rk 300 ∧ Kept (fun k => k < X.heap.size) X w') := fun X hX => zfb l n hln (by omega) a c hok (by omega) X (h.kept hX fun k hk => ltl hk hX.size)
  clear hln hok hb h
  go_enter Tryz.func10, Tryz.ntmps10
  go_wp2_with fail
  refine rh.mono ?_
  rintro e w1 ⟨rfl, k1⟩
  have rk0 := zbf w1
  clear rh
  go_wp2_with fail
  refine rk0.mono ?_
  rintro e w2 ⟨rfl, k2⟩
  have k12 : Kept (fun k => k < w.heap.size) w w2 := k1.trans (k2.mono fun k h => ltl h k1.size)
  have rg := RG.out w2 k12
  have HK12 : Hid (Kept (fun k => k < w.heap.size) w w2) := k12
  clear rk0 k1 k2 k12 RG
  go_wp2_with fail
  refine rg.mono ?_
  rintro e W ⟨p, r, E, M, R, G, rk, rfl, hG, hK⟩
  have HKW : Hid (Kept (fun k => k < w.heap.size) w W) := HK12.out.trans (hK.mono fun k h => ltl h HK12.out.size)
  obtain ⟨m, hm⟩ : ∃ m, M.n = m := ⟨_, rfl⟩
  have HM : Hid (M.n = m) := hm
  have hm300 : m ≤ 300 := by have h1 := hG.le; rw [hG.lim, hm] at h1; exact h1
  have hm1 : 1 ≤ m := by rw [← hm]; exact hG.inv.core.pos
  have hn5 : M.n ≤ 100000 := by omega
  have rl : ∀ X, Kept (fun k => k < W.heap.size) W X → Calls Tryz.prog 15 #[.pointer (some ⟨p, 0, none⟩)] X fun e w' => e = .returned (.int .i64 (m : Int)) ∧ w' = X := fun X hX => by rw [← hm]; exact hG.len hX
  have NODE : Hid (∀ i, i < m → ∀ X, Kept (fun k => k < W.heap.size) W X → Calls Tryz.prog 23 #[.pointer (some ⟨p, 0, none⟩), .int .i64 (i : Int)] X fun e w' => Told X (M.nd i) (M.pl i).up (R i) e w') := fun i hi X hX => hG.node (by decide) (by rw [hm]; exact hi) hX
  obtain ⟨i, hi⟩ : ∃ i, za % m = i := ⟨_, rfl⟩
  have him : i < m := by rw [← hi]; exact Nat.mod_lt _ (by omega)
  have hi' : (za : Int).tmod (m : Int) = (i : Int) := by rw [← hi]; rfl
  have hin : i < M.n := by rw [hm]; exact him
  have hgd := hG.inv.good
  have hO1 := hgd.only
  obtain ⟨t, htn, hTi, -⟩ := hgd.top _ i (Nat.lt_succ_self _) hin
  have RALL : Hid (∀ X, Kept (fun k => k < W.heap.size) W X → Calls Tryz.prog 43 #[.pointer (some ⟨p, 0, none⟩), .int .i64 (i : Int), .string ⟨#[42]⟩] X (Lst X (qL M R elB (i : Int)))) := fun X hX => by
    have := zd6 (hG.two.kept hX).d hgd hn5 ⟨#[42]⟩ (i : Int)
    rw [zna] at this; exact this
  have RSOM : Hid (∀ X, Kept (fun k => k < W.heap.size) W X → Calls Tryz.prog 43 #[.pointer (some ⟨p, 0, none⟩), .int .i64 (i : Int), .string NB] X (Lst X ((qL M R elB (i : Int)).filter fun x => decide ((M.nd x).name = NB.toList)))) := fun X hX => by
    have := zd6 (hG.two.kept hX).d hgd hn5 NB (i : Int)
    have e : nmP NB.toList = zey NB.toList := if_neg HNB.out
    rw [e, ← zqz] at this; exact this
  have RBEF : Hid (∀ x y, zpx M R (x : Int) (y : Int) (t : Int) (t : Int) = true ∧ Zfd M (x : Int) (t : Int) ∧ Zfd M (y : Int) (t : Int) → ∀ X, Kept (fun k => k < W.heap.size) W X → Calls Tryz.prog 49 #[.pointer (some ⟨r, 0, none⟩), .int .i64 x, .int .i64 y] X fun e w' => e = .returned (.bool true) ∧ Kept (fun k => k < X.heap.size) X w') := fun x y hb X hX => by
    have := zqe _ r M R G rk X (hG.two.kept hX).r hG.inv hn5 x y t t hb.2.1 hb.2.2
    rw [hb.1] at this; exact this
  obtain ⟨cl, hcl⟩ := Clo.ex hgd NB.toList (i : Int)
  have RCLO : Hid (∀ X, Kept (fun k => k < W.heap.size) W X → Calls Tryz.prog 40 #[.pointer (some ⟨p, 0, none⟩), .int .i64 (i : Int), .string NB] X fun e w' => e = .returned (.int .i64 cl) ∧ Kept (fun k => k < X.heap.size) X w') := fun X hX => ze6 (hG.two.kept hX).d hgd hn5 NB (i : Int) cl hcl
  have HCL : Hid (cl = -1 ∨ ∃ k : Nat, k < m ∧ cl = (k : Int) ∧ (M.nd k).name = NB.toList ∧ (k = i ∨ (k ≠ i ∧ zpx M R (k : Int) (i : Int) (t : Int) (t : Int) = true ∧ Zfd M (k : Int) (t : Int) ∧ Zfd M (i : Int) (t : Int)))) := by
    rcases Clo.upw hgd hcl i rfl hin with h1 | ⟨k, hk, e, hb, hU⟩
    · exact .inl h1
    · refine .inr ⟨k, by rw [← hm]; exact hk, e, ?_, ?_⟩
      · unfold zey at hb
        rw [Bool.and_eq_true] at hb
        exact of_decide_eq_true hb.2
      · by_cases c : k = i
        · exact .inl c
        · exact .inr ⟨c, bef_up hgd hin hTi htn hU hk c⟩
  have RNONE : Hid (∀ X, Kept (fun k => k < W.heap.size) W X → Calls Tryz.prog 23 #[.pointer (some ⟨p, 0, none⟩), .int .i64 (-1)] X fun e w' => e = .returned (.tuple #[.agg zej, .int .u16 80]) ∧ Kept (fun k => k < X.heap.size) X w') := fun X hX => zh4 _ p M (-1) X (hG.two.kept hX).d (.inl (by decide)) (by omega)
  have HMEM : Hid (∀ x ∈ qL M R elB (i : Int), x < m) := fun x hx => by rw [← hm]; exact (zqp hgd hin hx).1
  have HSUB : Hid (∀ x y, List.Sublist [x, y] (qL M R elB (i : Int)) → zpx M R (x : Int) (y : Int) (t : Int) (t : Int) = true ∧ Zfd M (x : Int) (t : Int) ∧ Zfd M (y : Int) (t : Int)) := fun x y hs => by
    obtain ⟨x1, x2, -, x4⟩ := zqp hgd hin (hs.subset (by simp : x ∈ [x, y]))
    obtain ⟨y1, y2, -, y4⟩ := zqp hgd hin (hs.subset (by simp : y ∈ [x, y]))
    have hs2 : List.Sublist [x, y] (tr M.n R i) := by
      rw [← zdp hin]
      exact hs.trans List.filter_sublist
    have hne : x ≠ y := fun e => by
      subst e
      have := hs2.nodup (zgl hO1 _ i hin (Nat.lt_succ_self _))
      simp at this
    exact bef_sub hgd hin hTi htn x4 y4 x1 y1 hne hs2
  have hll : (qL M R elB (i : Int)).length ≤ 300 := Nat.le_trans (zi1 hO1 _ _) (by omega)
  obtain ⟨L, hL⟩ : ∃ L, qL M R elB (i : Int) = L := ⟨_, rfl⟩
  rw [hL] at RALL RSOM HMEM HSUB hll
  have hi300 : i < 300 := by omega
  have rl0 := rl W (Kept.refl _ _)
  have ra := RNM.out W
  clear rg hG hK hm hi hin hgd hO1 htn hTi hcl hL rl hn5
  go_upto_region 7 with (go_at_call 15; refine rl0.mono ?_; rintro e1 w3 ⟨rfl, hw3⟩; replace hw3 := hw3.symm; subst hw3)
  clear rl0
  go_wp2_with fail
  refine ra.mono ?_
  rintro e u1 ⟨rfl, k1⟩
  have r2 := RALL.out u1 k1
  have HU1 : Hid (Kept (fun k => k < W.heap.size) W u1) := k1
  clear ra k1 RNM
  go_wp2_with fail
  refine r2.mono ?_
  rintro e U2 ⟨ta, tc, rfl, hO, hk2⟩
  have hU2 : Kept (fun k => k < W.heap.size) W U2 := HU1.out.trans (hk2.mono fun k h => ltl h HU1.out.size)
  have HA : Hid (Zah (fun g => g < U2.heap.size) U2 ta L) := hO.intsAt fun g hg => (hO.out hg).2
  have r3 := RSOM.out U2 hU2
  have HU2 : Hid (Kept (fun k => k < W.heap.size) W U2) := hU2
  obtain ⟨ln, hln⟩ : ∃ ln, L.length = ln := ⟨_, rfl⟩
  have HLN : Hid (L.length = ln) := hln
  rw [hln] at hll ⊢
  clear r2 hO hk2 hU2 hln
  go_wp2_with fail
  refine r3.mono ?_
  rintro e U ⟨sa, sc, rfl, hO, hk3⟩
  have HB : Hid (Zah (fun g => g < U.heap.size) U sa (L.filter fun x => decide ((M.nd x).name = NB.toList))) := hO.intsAt fun g hg => (hO.out hg).2
  have HA2 : Hid (Zah (fun g => g < U.heap.size) U ta L) := HA.out.to (fun g hg => ltl hg hk3.size) (fun g hg => hk3.block g hg)
  have HWU : Hid (Kept (fun k => k < W.heap.size) W U) := HU2.out.trans (hk3.mono fun k h => ltl h HU2.out.size)
  obtain ⟨sn, hsn⟩ : ∃ sn, (L.filter fun x => decide ((M.nd x).name = NB.toList)).length = sn := ⟨_, rfl⟩
  have HSN : Hid ((L.filter fun x => decide ((M.nd x).name = NB.toList)).length = sn) := hsn
  have hsn3 : sn ≤ 300 := by rw [← hsn]; exact Nat.le_trans (List.length_filter_le _ _) (by rw [HLN.out]; exact hll)
  rw [hsn]
  clear r3 hO hk3 HA hsn
  go_upto_region 12 with fail
  go_loopg [13, 14] ln (fun gh v13 v14 wr => ∃ j : Nat, gh = ln - j ∧ j ≤ ln ∧ v14 = .int .i64 (j : Int) ∧ v13 = .int .i64 (((L.take j).filter fun x => decide ((M.nd x).name = NB.toList)).length : Int) ∧ Kept (fun k => k < U.heap.size) U wr)
  case atStart => exact ⟨0, rfl, Nat.zero_le _, rfl, rfl, Kept.refl _ _⟩
  case round =>
    obtain ⟨j, hgj, hj, rfl, rfl, hKr⟩ := hrel
    have HKr : Hid (Kept (fun k => k < U.heap.size) U wr) := hKr
    have HKW3 : Hid (Kept (fun k => k < W.heap.size) W wr) := HWU.out.trans (hKr.mono fun k h => ltl h HWU.out.size)
    by_cases hlt : j < ln
    · have hjl : j < L.length := by rw [HLN.out]; exact hlt
      obtain ⟨g, o, rfl, hg, d⟩ := HA2.out j hjl
      have hxm := HMEM.out _ (List.getElem_mem hjl)
      have hst := zm2 (q := fun x => decide ((M.nd x).name = NB.toList)) hjl
      have hprev : 1 ≤ j → ∃ y : Nat, (∀ X, Kept (fun k => k < U.heap.size) U X → X.cell? ⟨g, o + (j - 1), none⟩ = some (.int .i64 (y : Int))) ∧ zpx M R (y : Int) (L[j] : Int) (t : Int) (t : Int) = true ∧ Zfd M (y : Int) (t : Int) ∧ Zfd M (L[j] : Int) (t : Int) := fun h1 => by
        obtain ⟨g', o', e', hg', d'⟩ := HA2.out (j - 1) (by omega)
        injection e' with e'
        injection e' with e1 e2
        subst e1
        subst e2
        exact ⟨L[j - 1], fun X hX => (hX.cell (p := ⟨g, o + (j - 1), none⟩) hg').trans d', HSUB.out _ _ (pair_sub h1 hjl)⟩
      obtain ⟨x, hx⟩ : ∃ x, L[j] = x := ⟨_, rfl⟩
      rw [hx] at d hxm hst hprev
      have HPREV : Hid _ := hprev
      have HD : Hid (∀ X, Kept (fun k => k < U.heap.size) U X → X.cell? ⟨g, o + j, none⟩ = some (.int .i64 (x : Int))) := fun X hX => (hX.cell (p := ⟨g, o + j, none⟩) hg).trans d
      have d1 := HD.out wr hKr
      have rn := NODE.out x hxm wr HKW3.out
      have HST : Hid _ := hst
      clear hKr d hx hst hprev hxm hjl
      obtain ⟨q, hq⟩ : ∃ q, ((L.take j).filter fun x => decide ((M.nd x).name = NB.toList)).length = q := ⟨_, rfl⟩
      have HQ : Hid (((L.take j).filter fun x => decide ((M.nd x).name = NB.toList)).length = q) := hq
      have hq3 : q ≤ 300 := by
        rw [← hq]
        refine Nat.le_trans (List.length_filter_le _ _) ?_
        rw [List.length_take, HLN.out]; omega
      rw [hq]
      clear hq
      go_upto_region 14 with fail
      go_wp2_with fail
      refine rn.mono ?_
      rintro e v1 ⟨ao, ac, ko, kc, rfl, -, -, hKa⟩
      clear rn
      go_upto_region 15 with fail
      obtain ⟨V1, N1, hV1, rfl, hb1, kV1, sV1⟩ := za9 v1 (zch (M.nd x) ao ac (M.pl x).up ko (R x).length kc) 46
      have hkV : Kept (fun k => k < wr.heap.size) wr V1 := hKa.trans (kV1.mono fun k h => ltl h hKa.size)
      have HKV : Hid (Kept (fun k => k < U.heap.size) U V1) := HKr.out.trans (hkV.mono fun k h => ltl h HKr.out.size)
      obtain ⟨N1, hN1⟩ : ∃ N, v1.heap.size = N := ⟨_, rfl⟩
      rw [hN1] at hb1
      have HB1 : Hid (∀ X, Kept (fun k => k < V1.heap.size) V1 X → X.cell? ⟨N1, 1, none⟩ = some (.string ⟨(M.nd x).name.toArray⟩)) := fun X hX => by
        rw [zaa ((hX.block N1 (zae hb1)).trans hb1)]; rfl
      have HV1 : Hid (v1.alloc (.cells (zch (M.nd x) ao ac (M.pl x).up ko (R x).length kc) 46) = V1) := hV1
      have HN1 : Hid (v1.heap.size = N1) := hN1
      clear hKa hV1 hN1 hb1 kV1 sV1 hkV d1
      rw [HV1.out, HN1.out]
      clear HV1 HN1
      have hnm : ((⟨(M.nd x).name.toArray⟩ : ByteArray).toList == NB.toList) = decide ((M.nd x).name = NB.toList) := by rw [zjk, zfi]; exact Bool.beq_comm
      obtain ⟨s, hs⟩ : ∃ s : ByteArray, (⟨(M.nd x).name.toArray⟩ : ByteArray) = s := ⟨_, rfl⟩
      rw [hs] at hnm HB1
      obtain ⟨nb, hnb⟩ : ∃ b, decide ((M.nd x).name = NB.toList) = b := ⟨_, rfl⟩
      rw [hnb] at hnm
      have HNBX : Hid (decide ((M.nd x).name = NB.toList) = nb) := hnb
      clear hs hnb
      by_cases hj0 : j = 0
      · have i1 : decide ((j : Int) > 0) = false := decide_eq_false (by omega)
        have i2 : decide (0 < j) = false := decide_eq_false (by omega)
        have i3 : ¬ 0 < j := by omega
        clear hj0
        go_quiet (fail)
        obtain ⟨X, hXX⟩ : ∃ X, V1.drewN nq = X := ⟨_, rfl⟩
        have kX : Kept (fun k => k < V1.heap.size) V1 X := by rw [← hXX]; exact (Kept.refl _ V1).drewN nq
        rw [hXX]
        have s1 := HB1.out X kX
        have HX : Hid (Kept (fun k => k < U.heap.size) U X) := HKV.out.trans (kX.mono fun k h => ltl h HKV.out.size)
        clear hXX kX
        cases nb with
        | false =>
          have hf : (L.take (j + 1)).filter (fun x => decide ((M.nd x).name = NB.toList)) = (L.take j).filter fun x => decide ((M.nd x).name = NB.toList) := by
            have h1 := HST.out.1
            rw [HNBX.out] at h1
            simpa using h1
          have HF : Hid (((L.take (j + 1)).filter fun x => decide ((M.nd x).name = NB.toList)).length = q) := by rw [hf]; exact HQ.out
          clear hf
          go_wp2
          go_roundg (ln - (j + 1))
          case rel => exact ⟨j + 1, rfl, by omega, by go_num, by rw [HF.out], HX.out⟩
          case measure => omega
        | true =>
          have hf : (L.take (j + 1)).filter (fun x => decide ((M.nd x).name = NB.toList)) = ((L.take j).filter fun x => decide ((M.nd x).name = NB.toList)) ++ [x] := by
            have h1 := HST.out.1
            rw [HNBX.out] at h1
            simpa using h1
          have hall : (L.filter fun x => decide ((M.nd x).name = NB.toList)) = (((L.take j).filter fun x => decide ((M.nd x).name = NB.toList)) ++ [x]) ++ (L.drop (j + 1)).filter fun x => decide ((M.nd x).name = NB.toList) := by rw [← hf]; exact HST.out.2
          have hqs : q < sn := by
            have := congrArg List.length hall
            rw [List.length_append, List.length_append, HQ.out, HSN.out] at this
            simp at this
            omega
          obtain ⟨g2, o2, rfl, hg2, d2⟩ := HB.out q (by rw [HSN.out]; exact hqs)
          have hqx : (L.filter fun x => decide ((M.nd x).name = NB.toList))[q]'(by rw [HSN.out]; exact hqs) = x := by
            have h3 : (L.filter fun x => decide ((M.nd x).name = NB.toList))[q]? = some x := by
              rw [hall, List.append_assoc, List.getElem?_append_right (by rw [HQ.out]; exact Nat.le_refl _), HQ.out, Nat.sub_self]; rfl
            exact (List.getElem_eq_iff _).2 h3
          rw [hqx] at d2
          have d3 : X.cell? ⟨g2, o2 + q, none⟩ = some (.int .i64 (x : Int)) := (HX.out.cell (p := ⟨g2, o2 + q, none⟩) hg2).trans d2
          have d4 := HD.out X HX.out
          have HF : Hid (((L.take (j + 1)).filter fun x => decide ((M.nd x).name = NB.toList)).length = q + 1) := by rw [hf, List.length_append, HQ.out]; exact (show Hid _ from rfl)
          have j1 : decide ((q : Int) ≥ (sn : Int)) = false := decide_eq_false (by omega)
          have j2 : decide (sn ≤ q) = false := decide_eq_false (by omega)
          have j3 : decide ((sn : Int) ≤ (q : Int)) = false := decide_eq_false (by omega)
          have j4 : ¬ sn ≤ q := by omega
          have j5 : ((x : Int) != (x : Int)) = false := by simp
          clear hf hall hqx d2
          go_upto_region 18 with fail
          go_quiet (fail)
          go_wp2
          go_roundg (ln - (j + 1))
          case rel => exact ⟨j + 1, rfl, by omega, by go_num, by rw [HF.out]; go_num, HX.out.drewN _⟩
          case measure => omega
      · have i1 : decide ((j : Int) > 0) = true := decide_eq_true (by omega)
        have i2 : decide (0 < j) = true := decide_eq_true (by omega)
        obtain ⟨y, hyc, hyb⟩ := HPREV.out (by omega)
        obtain ⟨jm, hjm⟩ : ∃ jm, j - 1 = jm := ⟨_, rfl⟩
        rw [hjm] at hyc
        have i4 : (j : Int) - 1 = (jm : Int) := by omega
        have i5 : IntKind.i64.wrap (jm : Int) = (jm : Int) := by rw [IntKind.wrap_i64]; omega
        have i6 : jm < ln := by omega
        have i7 : 0 < j := by omega
        have hgr : ∀ (d : Nat) (os : Array Obj), Kept (fun k => k < U.heap.size) U (grow (redrawn V1 d) os) := fun d os => HKV.out.trans ((Below.kept (below_regrown V1 d os)).mono fun k h => ltl h HKV.out.size)
        have dj := fun d os => HD.out _ (hgr d os)
        have dy := fun d os => hyc _ (hgr d os)
        have hcI := calls_quietQ (V := V1) (fun X hX => RBEF.out y x hyb X (HWU.out.trans ((HKV.out.trans (hX.mono fun k h => ltl h HKV.out.size)).mono fun k h => ltl h HWU.out.size)))
        clear hj0 hyc hjm hyb hgr
        refine wp_region_quiet_below (by kernel_rfl) (by kernel_rfl) ?_
        repeat (go_big_quiet_step (exact hcI _ _))
        refine wpQuiet_nil ?_
        intro _ hw'
        obtain ⟨⟨dq, osq⟩, hw''⟩ := hw'
        subst hw''
        clear hcI dj dy i4 i5 i6
        obtain ⟨X, hXX⟩ : ∃ X, grow (redrawn V1 dq) osq = X := ⟨_, rfl⟩
        have kX : Kept (fun k => k < V1.heap.size) V1 X := by rw [← hXX]; exact Below.kept (below_regrown V1 dq osq)
        rw [hXX]
        have s1 := HB1.out X kX
        have HX : Hid (Kept (fun k => k < U.heap.size) U X) := HKV.out.trans (kX.mono fun k h => ltl h HKV.out.size)
        clear hXX kX
        cases nb with
        | false =>
          have hf : (L.take (j + 1)).filter (fun x => decide ((M.nd x).name = NB.toList)) = (L.take j).filter fun x => decide ((M.nd x).name = NB.toList) := by
            have h1 := HST.out.1
            rw [HNBX.out] at h1
            simpa using h1
          have HF : Hid (((L.take (j + 1)).filter fun x => decide ((M.nd x).name = NB.toList)).length = q) := by rw [hf]; exact HQ.out
          clear hf
          go_wp2
          go_roundg (ln - (j + 1))
          case rel => exact ⟨j + 1, rfl, by omega, by go_num, by rw [HF.out], HX.out⟩
          case measure => omega
        | true =>
          have hf : (L.take (j + 1)).filter (fun x => decide ((M.nd x).name = NB.toList)) = ((L.take j).filter fun x => decide ((M.nd x).name = NB.toList)) ++ [x] := by
            have h1 := HST.out.1
            rw [HNBX.out] at h1
            simpa using h1
          have hall : (L.filter fun x => decide ((M.nd x).name = NB.toList)) = (((L.take j).filter fun x => decide ((M.nd x).name = NB.toList)) ++ [x]) ++ (L.drop (j + 1)).filter fun x => decide ((M.nd x).name = NB.toList) := by rw [← hf]; exact HST.out.2
          have hqs : q < sn := by
            have := congrArg List.length hall
            rw [List.length_append, List.length_append, HQ.out, HSN.out] at this
            simp at this
            omega
          obtain ⟨g2, o2, rfl, hg2, d2⟩ := HB.out q (by rw [HSN.out]; exact hqs)
          have hqx : (L.filter fun x => decide ((M.nd x).name = NB.toList))[q]'(by rw [HSN.out]; exact hqs) = x := by
            have h3 : (L.filter fun x => decide ((M.nd x).name = NB.toList))[q]? = some x := by
              rw [hall, List.append_assoc, List.getElem?_append_right (by rw [HQ.out]; exact Nat.le_refl _), HQ.out, Nat.sub_self]; rfl
            exact (List.getElem_eq_iff _).2 h3
          rw [hqx] at d2
          have d3 : X.cell? ⟨g2, o2 + q, none⟩ = some (.int .i64 (x : Int)) := (HX.out.cell (p := ⟨g2, o2 + q, none⟩) hg2).trans d2
          have d4 := HD.out X HX.out
          have HF : Hid (((L.take (j + 1)).filter fun x => decide ((M.nd x).name = NB.toList)).length = q + 1) := by rw [hf, List.length_append, HQ.out]; exact (show Hid _ from rfl)
          have j1 : decide ((q : Int) ≥ (sn : Int)) = false := decide_eq_false (by omega)
          have j2 : decide (sn ≤ q) = false := decide_eq_false (by omega)
          have j3 : decide ((sn : Int) ≤ (q : Int)) = false := decide_eq_false (by omega)
          have j4 : ¬ sn ≤ q := by omega
          have j5 : ((x : Int) != (x : Int)) = false := by simp
          clear hf hall hqx d2
          go_upto_region 18 with fail
          go_quiet (fail)
          go_wp2
          go_roundg (ln - (j + 1))
          case rel => exact ⟨j + 1, rfl, by omega, by go_num, by rw [HF.out]; go_num, HX.out.drewN _⟩
          case measure => omega
    · have hjn : ln = j := by omega
      subst hjn
      have hall : L.take ln = L := List.take_of_length_le (by rw [HLN.out]; exact Nat.le_refl _)
      rw [hall, HSN.out]
      have rc := RCLO.out wr HKW3.out
      clear hall hKr
      go_wp2_with fail
      refine rc.mono ?_
      rintro e u5 ⟨rfl, k5⟩
      have K5 : Hid (Kept (fun k => k < W.heap.size) W u5) := HKW3.out.trans (k5.mono fun k h => ltl h HKW3.out.size)
      clear rc k5
      have HFIN : Hid (∀ X, Kept (fun k => k < W.heap.size) W X → Kept (fun k => k < w.heap.size) w X) := fun X hX => HKW.out.trans (hX.mono fun k h => ltl h HKW.out.size)
      rcases HCL.out with rfl | ⟨k, hkm, rfl, hkn, hkb⟩
      · have r6 := RNONE.out u5 K5.out
        go_wp2_with fail
        refine r6.mono ?_
        rintro e u6 ⟨rfl, k6⟩
        have HK6 : Hid (∀ o, Kept (fun k => k < W.heap.size) W (u6.alloc o)) := fun o => K5.out.trans ((k6.alloc (fun k h => ltl h k6.size) o).mono fun k h => ltl h K5.out.size)
        clear r6 k6
        go_wp2
        go_ret
        exact ⟨rfl, HFIN.out _ (HK6.out _)⟩
      · have r6 := NODE.out k hkm u5 K5.out
        have e0 : ((k : Int) == -1) = false := by rw [beq_eq_false_iff_ne]; omega
        have HKN : Hid ((M.nd k).name = NB.toList) := hkn
        have HKB : Hid _ := hkb
        have hk300 : k < 300 := by omega
        clear hkn hkb hkm
        go_wp2_with fail
        refine r6.mono ?_
        rintro e v1 ⟨ao, ac, ko, kc, rfl, -, -, hKa⟩
        obtain ⟨V1, N1, hV1, rfl, hb1, kV1, sV1⟩ := za9 v1 (zch (M.nd k) ao ac (M.pl k).up ko (R k).length kc) 46
        have HKV : Hid (Kept (fun k => k < W.heap.size) W V1) := K5.out.trans ((hKa.trans (kV1.mono fun k h => ltl h hKa.size)).mono fun k h => ltl h K5.out.size)
        have s1 : V1.cell? ⟨v1.heap.size, 1, none⟩ = some (.string ⟨(M.nd k).name.toArray⟩) := by rw [zaa hb1]; rfl
        have hnm : ((⟨(M.nd k).name.toArray⟩ : ByteArray).toList == NB.toList) = true := by rw [zjk, HKN.out]; simp
        obtain ⟨s, hs⟩ : ∃ s : ByteArray, (⟨(M.nd k).name.toArray⟩ : ByteArray) = s := ⟨_, rfl⟩
        rw [hs] at hnm s1
        have HV1 : Hid (v1.alloc (.cells (zch (M.nd k) ao ac (M.pl k).up ko (R k).length kc) 46) = V1) := hV1
        clear r6 hKa hV1 hb1 kV1 sV1 hs
        rcases HKB.out with hki | ⟨hki, hbe⟩
        · have e1 : ((k : Int) == (i : Int)) = true := by rw [hki]; simp
          clear hki
          go_wp2_with (rw [HV1.out])
          go_ret
          exact ⟨rfl, HFIN.out _ HKV.out⟩
        · have e1 : ((k : Int) == (i : Int)) = false := by rw [beq_eq_false_iff_ne]; omega
          have rb := RBEF.out k i hbe V1 HKV.out
          clear hki hbe
          go_wp2_with (first | (rw [HV1.out]) | (refine rb.mono ?_; rintro e u7 ⟨rfl, k7⟩))
          go_ret
          exact ⟨rfl, HFIN.out _ (HKV.out.trans (k7.mono fun k h => ltl h HKV.out.size))⟩
end Go.Proofs.YtojbjiopilkbgaaGreat
