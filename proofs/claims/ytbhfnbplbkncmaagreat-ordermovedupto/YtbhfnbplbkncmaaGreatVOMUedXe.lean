/-
  The walk of OrderMoved.
-/
import Derived.Test.YtbhfnbplbkncmaaGreatVOMUedXd
import Derived.Test.YtbhfnbplbkncmaaGreatYM38
namespace Go.Proofs.YtbhfnbplbkncmaaGreat
open Go.RowKit Go.Sort
set_option linter.unusedVariables false
section
variable {n : Nat} {F F' : Nat → List Nat} {rk : Nat → Nat}
theorem trF_congr : ∀ (f k : Nat), (h : Falls n F rk) → k < n → (∀ x, Up n F k x → F' x = F x) → trF F' f k = trF F f k
  | 0, k, _, _, _ => rfl
  | f + 1, k, h, hk, he => by
    show k :: (F' k).flatMap (trF F' f) = k :: (F k).flatMap (trF F f)
    rw [he k .here]
    refine congrArg (k :: ·) (flatMap_congr' fun c hc => ?_)
    exact trF_congr f c h (h k hk c hc).1 fun x hx => he x (Up.trans (.up hk hc .here) hx)
end
section
variable {M : Dm} {R : Nat → List Nat} {rk : Nat → Nat}
theorem up_wi (h : Good M R rk) {k x : Nat} (hu : Up M.n R k x) : Wi M k x := by
  induction hu with
  | here => exact .here
  | @up x y hy hm _ ih =>
    have e := (h.kid hy hm).2.1
    refine .up (m := y) ?_ ih
    unfold parI
    rw [if_neg (by omega)]
    exact e
/-- What is put at the end stands there, with all that is in it. -/
theorem tr_moved (h : Good M R rk) {u k : Nat} (hu : u < M.n) (hk : k < M.n) (h4 : (M.nd k).kind ≠ 4) (hF : Fits M u k (-1)) {rk' : Nat → Nat} (h' : Good (M.setP (putD M R u k (-1))) (putDR M R u k (-1)) rk') :
    ∃ A, tr M.n (putDR M R u k (-1)) u = u :: (A ++ tr M.n R k) := by
  have hbk : (-1 : Int) ≠ (k : Int) := by omega
  have hrow : putDR M R u k (-1) u = wantF (R u) k (-1) ++ [k] := by
    rw [ins_want h.wf hu hk h4 hbk hF, if_pos (by decide)]
  have hsame : ∀ x, Up M.n R k x → putDR M R u k (-1) x = R x := fun x hx => by
    have hw := up_wi h hx
    have hxu : x ≠ u := fun e => hF.2.2.1 (by rw [← e]; exact hw)
    have hxn : x < M.n := by
      cases hx with
      | here => exact hk
      | up hy hm _ => exact (h.kid hy hm).1
    unfold putDR
    rw [if_neg h4, if_neg hbk]
    show updR (outR M.pl R k) u (insB (outR M.pl R k u) k (-1)) x = R x
    rw [updR_ne _ _ hxu, outR_row h.wf hk hxn]
    refine List.erase_of_not_mem fun hm => ?_
    have h1 := (h.kid hxn hm).2.2
    rcases Up.low h.falls hx with e | e
    · subst e; omega
    · omega
  have e1 : tr M.n (putDR M R u k (-1)) u = _ := tr_eq (n := M.n) (rk := rk') h'.falls hu
  have e2 : tr M.n (putDR M R u k (-1)) k = tr M.n R k := trF_congr M.n k h.falls hk hsame
  refine ⟨(wantF (R u) k (-1)).flatMap (tr M.n (putDR M R u k (-1))), ?_⟩
  rw [e1, hrow, List.flatMap_append, List.flatMap_singleton, e2]
end
set_option maxRecDepth 20000 in
set_option maxHeartbeats 8000000 in
theorem omv_go (l : List Opx) (n : Nat) (hln : l.length = n) (hnn : n ≤ 60) (a : Option Addr) (c : Nat) (hok : ∀ o ∈ l, OpOk o) (hb : opsH l ≤ 6000) (w : World) (h : OpsAt (fun k => k < w.heap.size) w a l) (za zb : Nat) (hza : za < 65536) (hzb : zb < 65536) :
    Calls Tryz.prog 8 #[.slice a n c, .int .u16 (za : Int), .int .u16 (zb : Int)] w fun e w' => e = .returned (.bool true) ∧ Kept (fun k => k < w.heap.size) w w' := by
  have rh := heavy9_any l n hln hnn a c (by omega) w h
  rw [decide_eq_false (by omega : ¬ 6000 < opsH l)] at rh
  have RG : Hid (∀ X, Kept (fun k => k < w.heap.size) w X → Calls Tryz.prog 22 #[.slice a n c] X fun e w' => ∃ p r E M R G rk, e = .returned (.tuple #[.pointer (some ⟨p, 0, none⟩), .pointer (some ⟨r, 0, none⟩)]) ∧ Grown (fun k => k < X.heap.size) E w' p r M R G rk 300 ∧ Kept (fun k => k < X.heap.size) X w') := fun X hX => grown9 l n hln (by omega) a c hok (by omega) X (h.kept hX fun g hg => Nat.lt_of_lt_of_le hg hX.size)
  clear hln hok hb h
  go_enter Tryz.func8, Tryz.ntmps8
  go_wp2_with fail
  refine rh.mono ?_
  rintro e w1 ⟨rfl, k1⟩
  have rk0 := oknown_any w1
  clear rh
  go_wp2_with fail
  refine rk0.mono ?_
  rintro e w2 ⟨rfl, k2⟩
  have k12 : Kept (fun k => k < w.heap.size) w w2 := k1.trans (k2.mono fun k h => Nat.lt_of_lt_of_le h k1.size)
  have rg := RG.out w2 k12
  have HK12 : Hid (Kept (fun k => k < w.heap.size) w w2) := k12
  clear rk0 k1 k2 k12 RG
  go_wp2_with fail
  refine rg.mono ?_
  rintro e W ⟨p, r, E, M, R, G, rk, rfl, hG, hK⟩
  have HG : Hid (Grown (fun k => k < w2.heap.size) E W p r M R G rk 300) := hG
  have HKW : Hid (Kept (fun k => k < w.heap.size) w W) := HK12.out.trans (hK.mono fun k h => Nat.lt_of_lt_of_le h HK12.out.size)
  obtain ⟨m, hm⟩ : ∃ m, M.n = m := ⟨_, rfl⟩
  have HM : Hid (M.n = m) := hm
  have hm300 : m ≤ 300 := by have h1 := hG.le; rw [hG.lim, hm] at h1; exact h1
  have hm1 : 1 ≤ m := by rw [← hm]; exact hG.inv.core.pos
  have rl : Calls Tryz.prog 23 #[.pointer (some ⟨p, 0, none⟩)] W fun e w' => e = .returned (.int .i64 (m : Int)) ∧ w' = W := by rw [← hm]; exact hG.len (Kept.refl _ _)
  have NODE : Hid (∀ i, i < m → ∀ X, Kept (fun k => k < W.heap.size) W X → Calls Tryz.prog 24 #[.pointer (some ⟨p, 0, none⟩), .int .i64 (i : Int)] X fun e w' => Told X (M.nd i) (M.pl i).up (R i) e w') := fun i hi X hX => hG.node (by decide) (by rw [hm]; exact hi) hX
  obtain ⟨u, hi⟩ : ∃ i, za % m = i := ⟨_, rfl⟩
  have hum : u < m := by rw [← hi]; exact Nat.mod_lt _ (by omega)
  have hi' : (za : Int).tmod (m : Int) = (u : Int) := by rw [← hi]; rfl
  obtain ⟨k, hk⟩ : ∃ k, zb % m = k := ⟨_, rfl⟩
  have hkm : k < m := by rw [← hk]; exact Nat.mod_lt _ (by omega)
  have hk' : (zb : Int).tmod (m : Int) = (k : Int) := by rw [← hk]; rfl
  have hun : u < M.n := by rw [hm]; exact hum
  have hkn : k < M.n := by rw [hm]; exact hkm
  have HIN : Hid (u < M.n ∧ k < M.n) := ⟨hun, hkn⟩
  have hmn : M.n ≤ 100000 := by rw [hm]; omega
  have HMN : Hid (M.n ≤ 100000) := hmn
  obtain ⟨s, hsn, hS, -⟩ := hG.inv.good.top _ u (Nat.lt_succ_self _) hun
  have HS : Hid (TopOf M u s) := hS
  have TREE : Hid (∀ X, Kept (fun k => k < W.heap.size) W X → Calls Tryz.prog 27 #[.pointer (some ⟨p, 0, none⟩), .int .i64 (k : Int)] X (Lst X (tr M.n R k))) := fun X hX => by rw [← trI_in hkn]; exact hG.tree (by decide) (k : Int) hX
  have HTL : Hid ((tr M.n R k).length ≤ 300) := by have h1 := tr_len hG.inv.good.only hkn; have h2 := hm300; rw [← hm] at h2; exact (show Hid _ from Nat.le_trans h1 h2)
  obtain ⟨O, hO⟩ : ∃ O, tr M.n R k = O := ⟨_, rfl⟩
  have HO : Hid (tr M.n R k = O) := hO
  rw [hO] at TREE HTL
  have rn := NODE.out k hkm W (Kept.refl _ _)
  clear rg hG hK hm hi hk NODE hun hkn hS hsn hmn hO
  go_upto_region 7 with (go_at_call 23; refine rl.mono ?_; rintro e1 w3 ⟨rfl, hw3⟩; replace hw3 := hw3.symm; subst hw3)
  go_upto_region 8 with (go_at_call 23; refine rl.mono ?_; rintro e1 w3 ⟨rfl, hw3⟩; replace hw3 := hw3.symm; subst hw3)
  clear rl
  go_wp2_with fail
  refine rn.mono ?_
  rintro e v1 ⟨ao1, ac1, ko1, kc1, rfl, -, hQ1, hKa⟩
  obtain ⟨N1, hN1⟩ : ∃ N, v1.heap.size = N := ⟨_, rfl⟩
  obtain ⟨V1, hV1⟩ : ∃ V, v1.alloc (.cells (outN (M.nd k) ao1 ac1 (M.pl k).up ko1 (R k).length kc1) 36) = V := ⟨_, rfl⟩
  have hB1 := Box.of hQ1 hKa V1 N1 hN1 hV1
  have HV1 : Hid (v1.alloc (.cells (outN (M.nd k) ao1 ac1 (M.pl k).up ko1 (R k).length kc1) 36) = V1) := hV1
  have HN1 : Hid (v1.heap.size = N1) := hN1
  have HKV1 : Hid (Kept (fun k => k < W.heap.size) W V1) := hB1.kept
  have b0 := hB1.c0
  have HB1 : Hid (W.heap.size ≤ N1 ∧ N1 < V1.heap.size) := ⟨hB1.lo, hB1.hi⟩
  obtain ⟨kk, hkk⟩ : ∃ kk, (M.nd k).kind = kk := ⟨_, rfl⟩
  have HKK : Hid ((M.nd k).kind = kk) := hkk
  rw [hkk] at b0
  have rt := TREE.out V1 HKV1.out
  clear rn hQ1 hKa hN1 hV1 hB1 hkk
  go_upto_region 9 with fail
  rw [HV1.out, HN1.out]
  clear HV1 HN1
  go_wp2_with fail
  refine rt.mono ?_
  rintro e V2 ⟨ao, cp, rfl, hO, hk2⟩
  have HROW : Hid (IntsAt (fun g => W.heap.size ≤ g ∧ g < V2.heap.size) V2 ao O) := hO.intsAt fun g hg => ⟨Nat.le_trans HKV1.out.size (by have := (hO.out hg).1; omega), (hO.out hg).2⟩
  have hkv2 : Kept (fun k => k < W.heap.size) W V2 := HKV1.out.trans (hk2.mono fun k h => Nat.lt_of_lt_of_le h HKV1.out.size)
  have b1 : V2.cell? ⟨N1, 0, none⟩ = some (.int .u8 (kk : Int)) := (hk2.cell (p := ⟨N1, 0, none⟩) HB1.out.2).trans b0
  obtain ⟨ol, hol⟩ : ∃ ol, O.length = ol := ⟨_, rfl⟩
  have HOL : Hid (O.length = ol) := hol
  have hol3 : ol ≤ 300 := by rw [← hol]; exact HTL.out
  rw [hol]
  obtain ⟨K', hK'⟩ : ∃ K' : Nat → Prop, K' = (fun j => TK (fun k => k < w2.heap.size) E j ∨ (W.heap.size ≤ j ∧ j < V2.heap.size)) := ⟨_, rfl⟩
  have hd2 : DX K' V2 p M := HG.out.two.d.more hkv2 (fun j h => by rw [hK'] at h; exact h.elim .inl (fun h => .inr h.1)) (fun j h => by
    rw [hK'] at h
    rcases h with h | h
    · exact Nat.lt_of_lt_of_le (HG.out.two.d.lt j h) hkv2.size
    · exact h.2)
  have HKN : Hid (∀ j, W.heap.size ≤ j → j < V2.heap.size → K' j) := fun j h1 h2 => by rw [hK']; exact .inr ⟨h1, h2⟩
  have HKlow : Hid (∀ j, j < w.heap.size → K' j) := fun j hj => by rw [hK']; exact .inl (.inl (Nat.lt_of_lt_of_le hj HK12.out.size))
  have HKWV : Hid (Kept (fun j => j < w.heap.size) w V2) := HKW.out.trans (hkv2.mono fun k h => Nat.lt_of_lt_of_le h HKW.out.size)
  have ri := insert_in K' p u k (-1) M R rk V2 hd2 HG.out.inv.good.wf HG.out.inv.good.acy HIN.out.1 HIN.out.2 (.inl rfl) (Nat.le_trans HMN.out (by decide))
  clear rt hO hk2 hkv2 b0 hol hK' hd2
  by_cases q4 : kk = 4
  · subst q4
    clear ri
    go_wp2
    go_ret
    exact ⟨rfl, HKWV.out⟩
  have e4 : ((kk : Int) == 4) = false := by simp; omega
  by_cases hF : Fits M u k (-1)
  · have ri' : Calls Tryz.prog 36 #[.pointer (some ⟨p, 0, none⟩), .int .i64 (u : Int), .int .i64 (k : Int), .int .i64 (-1)] V2 fun e w' => e = .returned (.int .u16 0) ∧ Kept K' V2 w' ∧ DX K' w' p (M.setP (putD M R u k (-1))) := ri.mono fun e w' ⟨h1, h2⟩ => by
      rcases h2 with ⟨_, h2, _⟩ | ⟨h3, _, h4⟩
      · exact absurd hF h2
      · exact ⟨h3, h1, h4⟩
    obtain ⟨rk', hI'⟩ := HG.out.inv.ins (up := u) (i := k) HIN.out.1 HIN.out.2 hF
    have h4 : (M.nd k).kind ≠ 4 := by rw [HKK.out]; exact q4
    obtain ⟨A, hA⟩ := tr_moved HG.out.inv.good HIN.out.1 HIN.out.2 h4 hF hI'.good
    rw [HO.out] at hA
    have hlA := tr_len hI'.good.only (n := M.n) HIN.out.1
    rw [hA] at hlA
    have HLA : Hid ((u :: (A ++ O)).length ≤ 300) := Nat.le_trans hlA (by rw [HM.out]; exact hm300)
    have hS' : TopOf (M.setP (putD M R u k (-1))) u s := top_ins h4 hF.2.2.1 HS.out
    have hSk : TopOf (M.setP (putD M R u k (-1))) k s := .up (ins_up h4 (by omega)) hS'
    have TREE2 : Hid (∀ X, DX K' X p (M.setP (putD M R u k (-1))) → Calls Tryz.prog 27 #[.pointer (some ⟨p, 0, none⟩), .int .i64 (u : Int)] X (Lst X (u :: (A ++ O)))) := fun X hX => by
      rw [← hA, ← trI_in HIN.out.1]
      exact tree_any K' p (M.setP (putD M R u k (-1))) (putDR M R u k (-1)) rk' X hX hI'.good HMN.out (u : Int)
    have ROOTU : Hid (∀ X, DX K' X p (M.setP (putD M R u k (-1))) → Calls Tryz.prog 26 #[.pointer (some ⟨p, 0, none⟩), .int .i64 (u : Int)] X fun e w' => e = .returned (.int .i64 (s : Int)) ∧ Kept (fun k => k < X.heap.size) X w') := fun X hX =>
      (oroot_any K' p u _ _ rk' X hX hI'.good HIN.out.1 (Nat.le_trans HMN.out (by decide))).mono fun e w' ⟨t', _, q2, q3, q4⟩ => by rw [q2.one hS'] at q3; exact ⟨q3, q4⟩
    have ROOTK : Hid (∀ X, DX K' X p (M.setP (putD M R u k (-1))) → Calls Tryz.prog 26 #[.pointer (some ⟨p, 0, none⟩), .int .i64 (k : Int)] X fun e w' => e = .returned (.int .i64 (s : Int)) ∧ Kept (fun k => k < X.heap.size) X w') := fun X hX =>
      (oroot_any K' p k _ _ rk' X hX hI'.good HIN.out.2 (Nat.le_trans HMN.out (by decide))).mono fun e w' ⟨t', _, q2, q3, q4⟩ => by rw [q2.one hSk] at q3; exact ⟨q3, q4⟩
    clear ri hF hI' h4 hA hlA hS' hSk q4
    go_upto_region 12 with (go_at_call 36; refine ri'.mono ?_; rintro e w5 ⟨rfl, hk5, hd5⟩)
    have rt2 := TREE2.out w5 hd5
    have HD5 : Hid (DX K' w5 p (M.setP (putD M R u k (-1)))) := hd5
    have HK5 : Hid (Kept K' V2 w5) := hk5
    clear ri' hd5 hk5 b1 TREE2
    go_wp2_with fail
    refine rt2.mono ?_
    rintro e U ⟨ao2, cp2, rfl, hO2, hk6⟩
    have HROW2 : Hid (IntsAt (fun g => g < U.heap.size) U ao2 (u :: (A ++ O))) := hO2.intsAt fun g hg => (hO2.out hg).2
    have HROW1 : Hid (∀ j (hj : j < O.length), ∃ g o, ao = some ⟨g, o, none⟩ ∧ g < U.heap.size ∧ U.cell? ⟨g, o + j, none⟩ = some (iv O[j])) := fun j hj => by
      obtain ⟨g, o, e1, hg, d⟩ := HROW.out j hj
      have c1 := (HK5.out.cell (p := ⟨g, o + j, none⟩) (HKN.out g hg.1 hg.2)).trans d
      exact ⟨g, o, e1, Nat.lt_of_lt_of_le (HD5.out.lt g (HKN.out g hg.1 hg.2)) hk6.size, (hk6.cell (p := ⟨g, o + j, none⟩) (HD5.out.lt g (HKN.out g hg.1 hg.2))).trans c1⟩
    have HKU : Hid (Kept (fun j => j < w.heap.size) w U) := (HKWV.out.trans (HK5.out.mono HKlow.out)).trans (hk6.mono fun j h => HD5.out.lt j (HKlow.out j h))
    have hdU : DX K' U p (M.setP (putD M R u k (-1))) := HD5.out.kept hk6
    have HDU : Hid (DX K' U p (M.setP (putD M R u k (-1)))) := hdU
    obtain ⟨al, hal⟩ : ∃ al, A.length = al := ⟨_, rfl⟩
    have HAL : Hid (A.length = al) := hal
    have hlen : (u :: (A ++ O)).length = al + ol + 1 := by rw [List.length_cons, List.length_append, hal, HOL.out]
    have hl3 : al + ol + 1 ≤ 300 := by rw [← hlen]; exact HLA.out
    obtain ⟨bl, hbl⟩ : ∃ bl, al + 1 = bl := ⟨_, rfl⟩
    obtain ⟨tl, htl⟩ : ∃ tl, al + ol + 1 = tl := ⟨_, rfl⟩
    rw [hlen, htl]
    rw [htl] at hl3
    have hsub : (tl : Int) - (ol : Int) = (bl : Int) := by omega
    have HBL : Hid (al + 1 = bl ∧ bl + ol = tl) := ⟨hbl, by omega⟩
    clear rt2 hO2 hk6 hdU hal hlen
    have g1 : decide ((tl : Int) ≤ (ol : Int)) = false := decide_eq_false (by omega)
    have g2 : decide (tl ≤ ol) = false := decide_eq_false (by omega)
    have g3 : ¬ tl ≤ ol := by omega
    clear htl hbl
    go_upto_region 16 with fail
    clear g1 g2 g3
    go_loopg [15] ol (fun gh v15 wr => ∃ j : Nat, gh = ol - j ∧ j ≤ ol ∧ v15 = .int .i64 (j : Int) ∧ Kept (fun k => k < U.heap.size) U wr)
    case atStart => exact ⟨0, rfl, Nat.zero_le _, rfl, Kept.refl _ _⟩
    case round =>
      obtain ⟨j, hgj, hj, rfl, hK2⟩ := hrel
      have HK7 : Hid (Kept (fun k => k < U.heap.size) U wr) := hK2
      by_cases hlt : j < ol
      · have hjO : j < O.length := by rw [HOL.out]; exact hlt
        have hjT : bl + j < (u :: (A ++ O)).length := by have := HBL.out; rw [List.length_cons, List.length_append, HAL.out, HOL.out]; omega
        obtain ⟨g2, o2, rfl, hg2, d2⟩ := HROW2.out (bl + j) hjT
        obtain ⟨g1, o1, rfl, hg1, d1⟩ := HROW1.out j hjO
        have hTO : (u :: (A ++ O))[bl + j] = O[j] := by
          have e1 : (u :: (A ++ O))[bl + j]? = some O[j] := by
            rw [show bl + j = (al + j) + 1 by have := HBL.out; omega, List.getElem?_cons_succ, List.getElem?_append_right (by rw [HAL.out]; omega), HAL.out, Nat.add_sub_cancel_left]
            exact List.getElem?_eq_getElem hjO
          rw [List.getElem?_eq_getElem hjT] at e1
          injection e1
        rw [hTO] at d2
        obtain ⟨z, hz⟩ : ∃ z, O[j] = z := ⟨_, rfl⟩
        rw [hz] at d1 d2
        obtain ⟨xj, hxj⟩ : ∃ xj, bl + j = xj := ⟨_, rfl⟩
        rw [hxj] at d2
        have hadd : (bl : Int) + (j : Int) = (xj : Int) := by omega
        have hx3 : xj < tl := by have := HBL.out; omega
        have d1' : wr.cell? ⟨g1, o1 + j, none⟩ = some (.int .i64 (z : Int)) := (hK2.cell (p := ⟨g1, o1 + j, none⟩) hg1).trans d1
        have d2' : wr.cell? ⟨g2, o2 + xj, none⟩ = some (.int .i64 (z : Int)) := (hK2.cell (p := ⟨g2, o2 + xj, none⟩) hg2).trans d2
        clear d1 d2 hz hTO hxj hK2 hjT hjO
        go_upto_region 18 with fail
        go_quiet (fail)
        go_wp2
        go_roundg (ol - (j + 1))
        case rel => exact ⟨j + 1, rfl, by omega, by go_num, HK7.out.drewN _⟩
        case measure => omega
      · have hjn : j = ol := by omega
        subst hjn
        have hdw : DX K' wr p (M.setP (putD M R u k (-1))) := HDU.out.kept hK2
        have rr := ROOTK.out wr hdw
        have HDW : Hid (DX K' wr p (M.setP (putD M R u k (-1)))) := hdw
        have HK8 : Hid (Kept (fun j => j < w.heap.size) w wr) := HKU.out.trans (hK2.mono fun k h => Nat.lt_of_lt_of_le h HKU.out.size)
        clear hK2 hdw
        go_wp2_with fail
        refine rr.mono ?_
        rintro e u3 ⟨rfl, hk3⟩
        have rr2 := ROOTU.out u3 (HDW.out.kept hk3)
        have HK9 : Hid (Kept (fun j => j < w.heap.size) w u3) := HK8.out.trans (hk3.mono fun k h => Nat.lt_of_lt_of_le h HK8.out.size)
        clear rr hk3
        go_wp2_with (go_at_call 26; refine rr2.mono ?_; rintro e u4 ⟨rfl, hk4⟩)
        go_ret
        exact ⟨by simp, HK9.out.trans (hk4.mono fun k h => Nat.lt_of_lt_of_le h HK9.out.size)⟩
  · have ri' : Calls Tryz.prog 36 #[.pointer (some ⟨p, 0, none⟩), .int .i64 (u : Int), .int .i64 (k : Int), .int .i64 (-1)] V2 fun e w' => e = .returned (.int .u16 81) ∧ Kept K' V2 w' := ri.mono fun e w' ⟨h1, h2⟩ => by
      rcases h2 with ⟨h3, _, _⟩ | ⟨_, h3, _⟩
      · exact ⟨h3, h1⟩
      · exact absurd h3 hF
    clear ri hF q4
    go_wp2_with (go_at_call 36; refine ri'.mono ?_; rintro e w5 ⟨rfl, hk5⟩)
    go_ret
    exact ⟨rfl, HKWV.out.trans (hk5.mono HKlow.out)⟩
set_option maxRecDepth 20000 in
theorem omv_no (a : Option Addr) (n c : Nat) (w : World) (za zb : Int) (rh : Calls Tryz.prog 20 #[.slice a n c] w fun e w' => e = .returned (.bool true) ∧ Kept (fun k => k < w.heap.size) w w') :
    Calls Tryz.prog 8 #[.slice a n c, .int .u16 za, .int .u16 zb] w fun e w' => e = .returned (.bool true) ∧ Kept (fun k => k < w.heap.size) w w' := by
  go_enter Tryz.func8, Tryz.ntmps8
  go_wp2_with fail
  refine rh.mono ?_
  rintro e w1 ⟨rfl, k1⟩
  have rk0 := oknown_any w1
  clear rh
  go_wp2_with (go_at_call 21; refine rk0.mono ?_; rintro e w2 ⟨rfl, k2⟩)
  go_ret
  exact ⟨rfl, k1.trans (k2.mono fun k h => Nat.lt_of_lt_of_le h k1.size)⟩
end Go.Proofs.YtbhfnbplbkncmaaGreat
