/-
  The tree's builder: takeEnd.
-/
import Derived.Test.YtffllhohlfblnaaBZ
import Derived.Test.YtffllhohlfblnaaBY
import Derived.Test.YtffllhohlfblnaaDB
namespace Go.Proofs.Ytffllhohlfblnaa
open Go.RowKit Go.Sort

theorem stop_none {b : BS} {n : List UInt8} {a : Nat} (h : seek (soughtBy n) (barredBy n) b.opn = none) : b.stop n a = (if n = [98, 114] ∨ n = [112] then b.item 1 n [] [] else b).flt 8 a := by
  unfold BS.stop
  rw [h]
theorem stop_some {b : BS} {n : List UInt8} {a k : Nat} (h : seek (soughtBy n) (barredBy n) b.opn = some k) : b.stop n a = if ((b.opn.drop k).head? == some n && ((b.opn.drop k).drop 1).all (isIn looseL)) = true then b.fin (soughtBy n) (barredBy n) else (b.fin (soughtBy n) (barredBy n)).flt 9 a := by
  unfold BS.stop BS.fin
  rw [h]
  rfl
theorem any_all (l : List (List UInt8)) : l.any (fun s => !isIn looseL s) = !(l.all (isIn looseL)) := by
  induction l with
  | nil => rfl
  | cons x r ih => rw [List.any_cons, List.all_cons, ih, Bool.not_and]
theorem badd_no (K : Nat → Prop) (p : Nat) (st : BS) (w : World) (h : BX K w p st) (hn : st.items.length ≤ 1000000) (S : ByteArray) (nm : List UInt8) (hS : (⟨nm.toArray⟩ : ByteArray) = S) :
    Calls Try.prog 41 #[.pointer (some ⟨p, 0, none⟩), .agg #[.int .i64 0, .int .u8 1, .string S, .string ⟨#[]⟩, .slice none 0 0]] w fun e w' => e = .returned (.tuple #[]) ∧ BX K w' p (st.item 1 nm [] []) ∧ Kept K w w' := by
  subst hS
  exact badd_any K (fun _ => False) p st w (h.same (by simp)) (fun _ h => h.elim) hn 1 nm [] [] none 0 (AtsIn.nil _ _ _) (Nat.zero_le _)
theorem bfault_S (K : Nat → Prop) (p : Nat) (st : BS) (w : World) (h : BX K w p st) (hn : st.flts.length ≤ 1000000) (k : Nat) (kd : Nat) (nm : List UInt8) (S : ByteArray) (hS : (⟨nm.toArray⟩ : ByteArray) = S) (aa : Option Addr) (an ac : Nat) (sf : Bool) (dt : List UInt8) (a : Nat) :
    Calls Try.prog 42 #[.pointer (some ⟨p, 0, none⟩), .int .u8 k, .agg #[.int .u8 (kd : Int), .string S, .slice aa an ac, .bool sf, sv dt, .int .i64 (a : Int)]] w fun e w' => e = .returned (.tuple #[]) ∧ BX K w' p (st.flt k a) ∧ Kept K w w' := by
  subst hS
  exact bfault_any K p st w h hn k kd nm aa an ac sf dt a

set_option maxRecDepth 20000 in
set_option maxHeartbeats 2000000 in
theorem takeEnd_any (K : Nat → Prop) (p : Nat) (st : BS) (w : World) (h : BX K w p st) (hl : st.opn.length ≤ 100000) (hi : st.items.length ≤ 900000) (hn : st.flts.length ≤ 700000) (kd : Nat) (nm : List UInt8) (aa : Option Addr) (an ac : Nat) (sf : Bool) (dt : List UInt8) (a : Nat) :
    Calls Try.prog 40 #[.pointer (some ⟨p, 0, none⟩), tokV kd nm aa an ac sf dt a] w fun e w' => e = .returned (.tuple #[]) ∧ BX K w' p (st.stop nm a) ∧ Kept K w w' := by
  show Calls Try.prog 40 #[.pointer (some ⟨p, 0, none⟩), .agg #[.int .u8 (kd : Int), .string ⟨nm.toArray⟩, .slice aa an ac, .bool sf, sv dt, .int .i64 (a : Int)]] w _
  obtain ⟨S, hS⟩ : ∃ S : ByteArray, (⟨nm.toArray⟩ : ByteArray) = S := ⟨_, rfl⟩
  rw [hS]
  obtain ⟨W, hW⟩ : ∃ W, w.alloc (.cells #[.int .u8 (kd : Int), .string S, .slice aa an ac, .bool sf, sv dt, .int .i64 (a : Int)] 43) = W := ⟨_, rfl⟩
  obtain ⟨d, hd⟩ : ∃ d, w.heap.size = d := ⟨_, rfl⟩
  have kW : Kept (fun k => k < w.heap.size) w W := by rw [← hW]; exact (Kept.refl _ w).alloc (fun _ h => h) _
  have sW : W.heap.size = d + 1 := by rw [← hW, ← hd]; simp
  have hcW : ∀ i u, #[.int .u8 (kd : Int), .string S, .slice aa an ac, .bool sf, sv dt, .int .i64 (a : Int)].toList[i]? = some u → W.cell? ⟨d, i, none⟩ = some u := by
    intro i u hi
    rw [← hW, ← hd, cell_block (heap_alloc_new w _), ← Array.getElem?_toList]
    exact hi
  have HNW : Hid (Nr (fun k => K k ∨ k = d) p st W W) := by
    refine ⟨h.more kW ?_ ?_, Kept.refl _ _⟩
    · rintro k (hk | rfl)
      · exact .inl hk
      · exact .inr (by omega)
    · rintro k (hk | rfl)
      · have := h.lt k hk; omega
      · omega
  have HK1 : Hid (Kept K w W) := kW.mono h.lt
  have HC : Hid (∀ i u, #[.int .u8 (kd : Int), .string S, .slice aa an ac, .bool sf, sv dt, .int .i64 (a : Int)].toList[i]? = some u → W.cell? ⟨d, i, none⟩ = some u) := hcW
  have HW : Hid (w.alloc (.cells #[.int .u8 (kd : Int), .string S, .slice aa an ac, .bool sf, sv dt, .int .i64 (a : Int)] 43) = W) := hW
  have HD : Hid (w.heap.size = d) := hd
  have HS : Hid ((⟨nm.toArray⟩ : ByteArray) = S) := hS
  have hSl : S.toList = nm := by rw [ByteArray.toList_eq, ← hS]
  have HSL : Hid (S.toList = nm) := hSl
  have t0W := hcW 0 _ rfl
  have t1W := hcW 1 _ rfl
  have t2W := hcW 2 _ rfl
  have t3W := hcW 3 _ rfl
  have t4W := hcW 4 _ rfl
  have t5W := hcW 5 _ rfl
  have re := endedBy_any nm W
  rw [show sv nm = Value.string S by rw [← hS]] at re
  clear h hW hd kW sW hcW hS hSl
  go_enter Try.func40, Try.ntmps40
  go_upto_region 1 with fail
  rw [HW.out, HD.out]
  clear HW HD
  go_wp2_with fail
  refine re.mono ?_
  rintro e w2 ⟨⟨f1, c1, f2, c2, rfl, o1, o2⟩, k2⟩
  have HNw2 : Hid (Nr (fun k => K k ∨ k = d) p st W w2) := HNW.out.kept k2
  have t0w2 : w2.cell? ⟨d, 0, none⟩ = _ := (HNw2.out.kp.cell (p := ⟨d, 0, none⟩) (.inr rfl)).trans (HC.out 0 _ rfl)
  have t1w2 : w2.cell? ⟨d, 1, none⟩ = _ := (HNw2.out.kp.cell (p := ⟨d, 1, none⟩) (.inr rfl)).trans (HC.out 1 _ rfl)
  have t2w2 : w2.cell? ⟨d, 2, none⟩ = _ := (HNw2.out.kp.cell (p := ⟨d, 2, none⟩) (.inr rfl)).trans (HC.out 2 _ rfl)
  have t3w2 : w2.cell? ⟨d, 3, none⟩ = _ := (HNw2.out.kp.cell (p := ⟨d, 3, none⟩) (.inr rfl)).trans (HC.out 3 _ rfl)
  have t4w2 : w2.cell? ⟨d, 4, none⟩ = _ := (HNw2.out.kp.cell (p := ⟨d, 4, none⟩) (.inr rfl)).trans (HC.out 4 _ rfl)
  have t5w2 : w2.cell? ⟨d, 5, none⟩ = _ := (HNw2.out.kp.cell (p := ⟨d, 5, none⟩) (.inr rfl)).trans (HC.out 5 _ rfl)
  have r2 := end_any (fun k => K k ∨ k = d) p st w2 HNw2.out.bx (by omega) _ _ _ _ o1 o2
  clear re o1 o2 k2 HNW t0W t1W t2W t3W t4W t5W
  obtain ⟨q, hq⟩ : ∃ q, seek (soughtBy nm) (barredBy nm) st.opn = q := ⟨_, rfl⟩
  rw [hq] at r2
  have HQ : Hid (seek (soughtBy nm) (barredBy nm) st.opn = q) := hq
  have hel := ended_len st.opn q
  obtain ⟨E, hE⟩ : ∃ E, endedL st.opn q = E := ⟨_, rfl⟩
  rw [hE] at r2 hel
  have HE : Hid (endedL st.opn q = E) := hE
  obtain ⟨n, hne⟩ : ∃ n, E.length = n := ⟨_, rfl⟩
  rw [hne] at r2 hel
  have HNE : Hid (E.length = n) := hne
  clear hq hE hne
  go_wp2_with fail
  refine r2.mono ?_
  rintro e w3 ⟨⟨la, cap, rfl, hcap, hna⟩, hX3, hK3⟩
  have HN3 : Hid (Nr (fun k => K k ∨ k = d) p (st.fin (soughtBy nm) (barredBy nm)) W w3) := ⟨hX3, HNw2.out.kp.trans hK3⟩
  have HNA : Hid (NamesAt w3 la E) := hna
  have t0w3 : w3.cell? ⟨d, 0, none⟩ = _ := (HN3.out.kp.cell (p := ⟨d, 0, none⟩) (.inr rfl)).trans (HC.out 0 _ rfl)
  have t1w3 : w3.cell? ⟨d, 1, none⟩ = _ := (HN3.out.kp.cell (p := ⟨d, 1, none⟩) (.inr rfl)).trans (HC.out 1 _ rfl)
  have t2w3 : w3.cell? ⟨d, 2, none⟩ = _ := (HN3.out.kp.cell (p := ⟨d, 2, none⟩) (.inr rfl)).trans (HC.out 2 _ rfl)
  have t3w3 : w3.cell? ⟨d, 3, none⟩ = _ := (HN3.out.kp.cell (p := ⟨d, 3, none⟩) (.inr rfl)).trans (HC.out 3 _ rfl)
  have t4w3 : w3.cell? ⟨d, 4, none⟩ = _ := (HN3.out.kp.cell (p := ⟨d, 4, none⟩) (.inr rfl)).trans (HC.out 4 _ rfl)
  have t5w3 : w3.cell? ⟨d, 5, none⟩ = _ := (HN3.out.kp.cell (p := ⟨d, 5, none⟩) (.inr rfl)).trans (HC.out 5 _ rfl)
  clear r2 hna hX3 hK3 HNw2 t0w2 t1w2 t2w2 t3w2 t4w2 t5w2
  have hb3 := fin_opn st (soughtBy nm) (barredBy nm)
  have hb3i : (st.fin (soughtBy nm) (barredBy nm)).items.length ≤ 900000 := by rw [hb3.2.2]; exact hi
  have hb3f : (st.fin (soughtBy nm) (barredBy nm)).flts.length ≤ 700000 := by rw [hb3.2.1]; exact hn
  clear hb3
  cases q with
  | none =>
    have hE0 : E = [] := HE.out.symm
    subst hE0
    have hn0 : n = 0 := HNE.out.symm
    subst hn0
    have efin : st.fin (soughtBy nm) (barredBy nm) = st := by
      unfold BS.fin
      rw [HQ.out]
      rfl
    rw [efin] at HN3 hb3i hb3f
    have HP : Hid (st.stop nm a = (if nm = [98, 114] ∨ nm = [112] then st.item 1 nm [] [] else st).flt 8 a) := stop_none HQ.out
    clear efin HNA HNE HE HQ
    by_cases hbr : nm = [98, 114] ∨ nm = [112]
    · have tests : (S.toList == [98, 114]) = true ∨ ((S.toList == [98, 114]) = false ∧ (S.toList == [112]) = true) := by
        rw [HSL.out]
        rcases hbr with rfl | rfl
        · exact .inl rfl
        · exact .inr ⟨rfl, rfl⟩
      rcases tests with q1 | ⟨q1, q2⟩
      all_goals
        go_wp2_with fail
        refine (badd_no (fun k => K k ∨ k = d) p st w3 HN3.out.bx (by omega) S nm HS.out).mono ?_
        rintro e w4 ⟨rfl, hX4, hK4⟩
        have HN4 : Hid (Nr (fun k => K k ∨ k = d) p (st.item 1 nm [] []) W w4) := ⟨hX4, HN3.out.kp.trans hK4⟩
        have t0w4 : w4.cell? ⟨d, 0, none⟩ = _ := (HN4.out.kp.cell (p := ⟨d, 0, none⟩) (.inr rfl)).trans (HC.out 0 _ rfl)
        have t1w4 : w4.cell? ⟨d, 1, none⟩ = _ := (HN4.out.kp.cell (p := ⟨d, 1, none⟩) (.inr rfl)).trans (HC.out 1 _ rfl)
        have t2w4 : w4.cell? ⟨d, 2, none⟩ = _ := (HN4.out.kp.cell (p := ⟨d, 2, none⟩) (.inr rfl)).trans (HC.out 2 _ rfl)
        have t3w4 : w4.cell? ⟨d, 3, none⟩ = _ := (HN4.out.kp.cell (p := ⟨d, 3, none⟩) (.inr rfl)).trans (HC.out 3 _ rfl)
        have t4w4 : w4.cell? ⟨d, 4, none⟩ = _ := (HN4.out.kp.cell (p := ⟨d, 4, none⟩) (.inr rfl)).trans (HC.out 4 _ rfl)
        have t5w4 : w4.cell? ⟨d, 5, none⟩ = _ := (HN4.out.kp.cell (p := ⟨d, 5, none⟩) (.inr rfl)).trans (HC.out 5 _ rfl)
        clear hX4 hK4 t0w3 t1w3 t2w3 t3w3 t4w3 t5w3
        go_wp2_with fail
        refine (bfault_S (fun k => K k ∨ k = d) p (st.item 1 nm [] []) w4 HN4.out.bx (by show st.flts.length ≤ _; omega) 8 kd nm S HS.out aa an ac sf dt a).mono ?_
        rintro e w5 ⟨rfl, hX5, hK5⟩
        have HX5 : Hid (BX K w5 p ((st.item 1 nm [] []).flt 8 a)) := hX5.weaken fun _ h => .inl h
        have HK5 : Hid (Kept K w w5) := HK1.out.trans ((HN4.out.kp.mono fun _ h => .inl h).trans (hK5.mono fun _ h => .inl h))
        clear hX5 hK5 t0w4 t1w4 t2w4 t3w4 t4w4 t5w4
        go_wp2
        refine bodyPost_ret (results_none rfl _ _ _) rfl ?_
        rw [HP.out, if_pos hbr]
        exact ⟨rfl, HX5.out, HK5.out⟩
    · have q1 : (S.toList == [98, 114]) = false := by
        rw [HSL.out]
        simp only [not_or] at hbr
        simpa using hbr.1
      have q2 : (S.toList == [112]) = false := by
        rw [HSL.out]
        simp only [not_or] at hbr
        simpa using hbr.2
      go_wp2_with fail
      refine (bfault_S (fun k => K k ∨ k = d) p st w3 HN3.out.bx (by omega) 8 kd nm S HS.out aa an ac sf dt a).mono ?_
      rintro e w5 ⟨rfl, hX5, hK5⟩
      have HX5 : Hid (BX K w5 p (st.flt 8 a)) := hX5.weaken fun _ h => .inl h
      have HK5 : Hid (Kept K w w5) := HK1.out.trans ((HN3.out.kp.mono fun _ h => .inl h).trans (hK5.mono fun _ h => .inl h))
      clear hX5 hK5 t0w3 t1w3 t2w3 t3w3 t4w3 t5w3
      go_wp2
      refine bodyPost_ret (results_none rfl _ _ _) rfl ?_
      rw [HP.out, if_neg hbr]
      exact ⟨rfl, HX5.out, HK5.out⟩
  | some k =>
    have hk := seek_lt HQ.out
    have hE1 : E = st.opn.drop k := HE.out.symm
    obtain ⟨x, r, hxr⟩ : ∃ x r, E = x :: r := by
      rw [hE1, List.drop_eq_getElem_cons hk]
      exact ⟨_, _, rfl⟩
    have hnr : n = r.length + 1 := by rw [← HNE.out, hxr]; rfl
    subst hnr
    obtain ⟨g, o, hg, hgl, c0⟩ := HNA.out 0 (by rw [hxr]; simp)
    subst hg
    have HR : Hid (NamesAt w3 (some ⟨g, o + 1, none⟩) r) := by
      intro j hj
      obtain ⟨g', o', e', hg', c'⟩ := HNA.out (j + 1) (by rw [hxr]; simpa using hj)
      injection e' with e'
      injection e' with e1 e2
      subst e1
      subst e2
      refine ⟨g, o + 1, rfl, hgl, ?_⟩
      rw [show o + 1 + j = o + (j + 1) by omega, c']
      congr 1
      simp only [hxr, List.getElem_cons_succ]
    obtain ⟨X, hX⟩ : ∃ X : ByteArray, (⟨x.toArray⟩ : ByteArray) = X := ⟨_, rfl⟩
    have cx : w3.cell? ⟨g, o, none⟩ = some (.string X) := by
      have e : E[0]'(by rw [hxr]; simp) = x := by simp only [hxr, List.getElem_cons_zero]
      rw [← hX]
      rw [e] at c0
      exact c0
    have hXl : X.toList = x := by rw [ByteArray.toList_eq, ← hX]
    have HP : Hid (st.stop nm a = if ((x == nm) && r.all (isIn looseL)) = true then st.fin (soughtBy nm) (barredBy nm) else (st.fin (soughtBy nm) (barredBy nm)).flt 9 a) := by
      show _ = _
      rw [stop_some HQ.out, ← hE1, hxr]
      rfl
    have hcap' : r.length + 1 ≤ cap := hcap
    obtain ⟨m, hm⟩ : ∃ m, r.length = m := ⟨_, rfl⟩
    have HM : Hid (r.length = m) := hm
    rw [hm] at hcap' hel ⊢
    obtain ⟨st3, hst3⟩ : ∃ s, st.fin (soughtBy nm) (barredBy nm) = s := ⟨_, rfl⟩
    rw [hst3] at HN3 HP hb3i hb3f
    have hm1 : ((m : Int) + 1 == 0) = false := by
      have : (m : Int) + 1 ≠ 0 := by omega
      simpa using this
    clear hE1 hk hxr HNA c0 hX HE HNE HQ hcap hm hst3
    obtain ⟨y, hy⟩ : ∃ y, (x == nm) = y := ⟨_, rfl⟩
    have qy : (X.toList == S.toList) = y := by rw [hXl, HSL.out]; exact hy
    rw [hy] at HP
    clear hy hXl
    cases y with
    | false =>
      go_upto_region 7 with fail
      go_quiet (fail)
      obtain ⟨w4, hw4⟩ : ∃ w4, w3.drewN nq = w4 := ⟨_, rfl⟩
      rw [hw4]
      have kw4 : Kept (fun k => k < w3.heap.size) w3 w4 := by rw [← hw4]; exact (Kept.refl _ w3).drewN _
      have HN4 : Hid (Nr (fun k => K k ∨ k = d) p st3 W w4) := HN3.out.kept kw4
      have t0w4 : w4.cell? ⟨d, 0, none⟩ = _ := (HN4.out.kp.cell (p := ⟨d, 0, none⟩) (.inr rfl)).trans (HC.out 0 _ rfl)
      have t1w4 : w4.cell? ⟨d, 1, none⟩ = _ := (HN4.out.kp.cell (p := ⟨d, 1, none⟩) (.inr rfl)).trans (HC.out 1 _ rfl)
      have t2w4 : w4.cell? ⟨d, 2, none⟩ = _ := (HN4.out.kp.cell (p := ⟨d, 2, none⟩) (.inr rfl)).trans (HC.out 2 _ rfl)
      have t3w4 : w4.cell? ⟨d, 3, none⟩ = _ := (HN4.out.kp.cell (p := ⟨d, 3, none⟩) (.inr rfl)).trans (HC.out 3 _ rfl)
      have t4w4 : w4.cell? ⟨d, 4, none⟩ = _ := (HN4.out.kp.cell (p := ⟨d, 4, none⟩) (.inr rfl)).trans (HC.out 4 _ rfl)
      have t5w4 : w4.cell? ⟨d, 5, none⟩ = _ := (HN4.out.kp.cell (p := ⟨d, 5, none⟩) (.inr rfl)).trans (HC.out 5 _ rfl)
      clear kw4 hw4 t0w3 t1w3 t2w3 t3w3 t4w3 t5w3 cx
      go_wp2_with fail
      refine (bfault_S (fun k => K k ∨ k = d) p st3 w4 HN4.out.bx (by omega) 9 kd nm S HS.out aa an ac sf dt a).mono ?_
      rintro e w5 ⟨rfl, hX5, hK5⟩
      have HX5 : Hid (BX K w5 p (st3.flt 9 a)) := hX5.weaken fun _ h => .inl h
      have HK5 : Hid (Kept K w w5) := HK1.out.trans ((HN4.out.kp.mono fun _ h => .inl h).trans (hK5.mono fun _ h => .inl h))
      clear hX5 hK5 t0w4 t1w4 t2w4 t3w4 t4w4 t5w4
      go_wp2
      go_end0
      rw [HP.out, if_neg (by simp)]
      exact ⟨rfl, HX5.out, HK5.out⟩
    | true =>
      obtain ⟨z, hz⟩ : ∃ z, r.all (isIn looseL) = z := ⟨_, rfl⟩
      rw [hz] at HP
      have cr : ∀ dq os, (grow (redrawn w3 dq) os).cell? ⟨g, o, none⟩ = some (.string X) := fun dq os => cell_regrown cx dq os
      have tr : ∀ dq os, (grow (redrawn w3 dq) os).cell? ⟨d, 1, none⟩ = some (.string S) := fun dq os => cell_regrown t1w3 dq os
      have rU : ∀ dq os, Calls Try.prog 66 #[.slice (if cap = 1 then some ⟨g, o, none⟩ else some ⟨g, o + 1, none⟩) m (cap - 1), .func (.func 67) #[] #[]] (grow (redrawn w3 dq) os) fun e w'' => e = .returned (.bool (!z)) ∧ ∃ p : Regrown, w'' = grow (redrawn w3 p.d) p.os := by
        intro dq os
        have kX : Kept (fun k => k < w3.heap.size) w3 (grow (redrawn w3 dq) os) := Kept.regrown (fun _ h => h) dq os
        refine Calls.regrown_of ((containsFunc_any r (if cap = 1 then some ⟨g, o, none⟩ else some ⟨g, o + 1, none⟩) m (cap - 1) (by omega) HM.out (grow (redrawn w3 dq) os) (fun j hj => ?_) 67 #[] _ (Ans.needs _)).mono ?_)
        · have hc1 : ¬ cap = 1 := by
            rw [HM.out] at hj
            omega
          obtain ⟨g', o', e', hg', c'⟩ := HR.out j hj
          exact ⟨g', o', by rw [if_neg hc1]; exact e', Nat.lt_of_lt_of_le hg' kX.size, by rw [kX.cell (p := ⟨g', o' + j, none⟩) hg']; exact c'⟩
        · rintro e w' ⟨rfl, kk⟩
          rw [any_all, hz]
          exact ⟨rfl, kk.below⟩
      clear hz HR
      go_upto_region 7 with fail
      refine wp_region_quiet_below (by kernel_rfl) (by kernel_rfl) ?_
      repeat (go_big_quiet_step (exact rU _ _))
      refine wpQuiet_nil ?_
      intro _ hw'
      obtain ⟨⟨dq, osq⟩, hw''⟩ := hw'
      subst hw''
      have kX : Kept (fun k => k < w3.heap.size) w3 (grow (redrawn w3 dq) osq) := Kept.regrown (fun _ h => h) dq osq
      obtain ⟨w4, hw4⟩ : ∃ w4, grow (redrawn w3 dq) osq = w4 := ⟨_, rfl⟩
      rw [hw4] at kX ⊢
      have HN4 : Hid (Nr (fun k => K k ∨ k = d) p st3 W w4) := HN3.out.kept kX
      have t0w4 : w4.cell? ⟨d, 0, none⟩ = _ := (HN4.out.kp.cell (p := ⟨d, 0, none⟩) (.inr rfl)).trans (HC.out 0 _ rfl)
      have t1w4 : w4.cell? ⟨d, 1, none⟩ = _ := (HN4.out.kp.cell (p := ⟨d, 1, none⟩) (.inr rfl)).trans (HC.out 1 _ rfl)
      have t2w4 : w4.cell? ⟨d, 2, none⟩ = _ := (HN4.out.kp.cell (p := ⟨d, 2, none⟩) (.inr rfl)).trans (HC.out 2 _ rfl)
      have t3w4 : w4.cell? ⟨d, 3, none⟩ = _ := (HN4.out.kp.cell (p := ⟨d, 3, none⟩) (.inr rfl)).trans (HC.out 3 _ rfl)
      have t4w4 : w4.cell? ⟨d, 4, none⟩ = _ := (HN4.out.kp.cell (p := ⟨d, 4, none⟩) (.inr rfl)).trans (HC.out 4 _ rfl)
      have t5w4 : w4.cell? ⟨d, 5, none⟩ = _ := (HN4.out.kp.cell (p := ⟨d, 5, none⟩) (.inr rfl)).trans (HC.out 5 _ rfl)
      clear kX hw4 t0w3 t1w3 t2w3 t3w3 t4w3 t5w3 cx cr tr rU
      obtain ⟨la1, hla1⟩ : ∃ v : Option Addr, (if cap = 1 then some ⟨g, o, none⟩ else some ⟨g, o + 1, none⟩) = v := ⟨_, rfl⟩
      rw [hla1]
      clear hla1
      cases z with
      | true =>
        go_wp2
        go_end0
        rw [HP.out, if_pos (show (true && true) = true from rfl)]
        exact ⟨rfl, HN4.out.bx.weaken fun _ h => .inl h, HK1.out.trans (HN4.out.kp.mono fun _ h => .inl h)⟩
      | false =>
        go_wp2_with fail
        refine (bfault_S (fun k => K k ∨ k = d) p st3 w4 HN4.out.bx (by omega) 9 kd nm S HS.out aa an ac sf dt a).mono ?_
        rintro e w5 ⟨rfl, hX5, hK5⟩
        have HX5 : Hid (BX K w5 p (st3.flt 9 a)) := hX5.weaken fun _ h => .inl h
        have HK5 : Hid (Kept K w w5) := HK1.out.trans ((HN4.out.kp.mono fun _ h => .inl h).trans (hK5.mono fun _ h => .inl h))
        clear hX5 hK5 t0w4 t1w4 t2w4 t3w4 t4w4 t5w4
        go_wp2
        go_end0
        rw [HP.out, if_neg (by simp)]
        exact ⟨rfl, HX5.out, HK5.out⟩
end Go.Proofs.Ytffllhohlfblnaa
