/-
 The document's own slots: Assigned.; The walk of FlatLost.
-/
import Derived.Test.YtljnjdckhkglfaaGreatH01
import Derived.Test.YtljnjdckhkglfaaGreatJ07
import Derived.Test.YtljnjdckhkglfaaGreatB06
import Derived.Test.YtljnjdckhkglfaaGreatJ06
namespace Go.Proofs.YtljnjdckhkglfaaGreat
set_option linter.unusedVariables false
set_option maxRecDepth 100000
set_option maxHeartbeats 8000000
section
open Go.RowKit Go.Sort
theorem app_one {w5 V : World} {ao : Option Addr} {n c : Nat} {Q : List Nat} (hK : Kept (fun k => k < w5.heap.size) w5 V) (hO : OwnZ (fun k => k < w5.heap.size) V 3 1 ao n c (ivs Q)) (hn : n <= 100000) (x : Nat) :
  ∃ ao' c' U, (Builtin.append_ #[33, 33] 33 #[.slice ao n c, .slice (some ⟨V.heap.size, 0, none⟩) 1 1]).run Tryz.prog (V.alloc (.cells #[.int .i64 (x : Int)] 3)) = .ok (.slice ao' (n + 1) c') U /\ OwnZ (fun k => k < w5.heap.size) U 3 1 ao' (n + 1) c' (ivs (Q ++ [x])) /\ Kept (fun k => k < w5.heap.size) w5 U := by
 obtain ⟨Z, hZ⟩ : ∃ Z, V.alloc (.cells #[.int .i64 (x : Int)] 3) = Z := ⟨_, rfl⟩
 have hbz : Z.heap[V.heap.size]? = some (.cells #[.int .i64 (x : Int)] 3 (0, 0)) := by rw [<- hZ]; exact heap_alloc_new V _
 have kZ : Kept (fun k => k < V.heap.size) V Z := by rw [<- hZ]; exact (Kept.refl _ V).alloc (fun _ h => h) _
 have hOZ : OwnZ (fun k => k < w5.heap.size) Z 3 1 ao n c (ivs Q) := hO.to (fun q hq => (hO.out hq).1) (fun q hq => kZ.block q (hO.out hq).2)
 have hIZ : IntsAt (fun _ => True) Z (some ⟨V.heap.size, 0, none⟩) [x] := fun i hi => by
  have : i = 0 := by simpa using hi
  subst this
  exact ⟨V.heap.size, 0, rfl, trivial, by rw [cell_block hbz]; rfl⟩
 rw [hZ]
 obtain ⟨ao', c', U, hrun, hO', hK'⟩ := app_ints (ac := 1) hOZ rfl hIZ (fun k h => Nat.lt_of_lt_of_le h (Nat.le_trans hK.size kZ.size)) (by omega) (by show 1 <= 100000000; decide)
 exact ⟨ao', c', U, hrun, hO', (hK.trans (kZ.mono fun k h => Nat.lt_of_lt_of_le h hK.size)).trans hK'⟩
section
variable {M : Dm} {R G : Nat -> List Nat} {rk : Nat -> Nat}
theorem asg_shw {i s : Nat} (hsl : isS M i = true) (ho : ofZ M (i : Int) = (s : Int)) : asgL M R G i = shwL M R G i s := by
 unfold asgL
 have h1 : isSl (M.nd i) = true := by unfold isS at hsl; simp at hsl; exact hsl.1
 rw [h1, ho, if_neg (by rintro (hh | hh); cases hh; omega), Int.toNat_natCast]
theorem Inv.asg_find (h : Inv M R G rk) {i s o : Nat} (hi : i < M.n) (hsl : isS M i = true) (ho : ofZ M (i : Int) = (s : Int)) (hb : (M.nd s).fl.b = false) (eo : (M.nd s).host = (o : Int)) (hon : o < M.n) : asgL M R G i = (R o).filter fun k => decide (findZ M R k = (i : Int)) := by
 have ha := asg_shw (G := G) (R := R) hsl ho
 have hm : ∀ k ∈ R o, (k ∈ asgL M R G i ↔ findZ M R k = (i : Int)) := fun k hk => h.asg hi (h.good.wf.lt o hon k hk)
 have hs : shwL M R G i s = if fstS M R (atV nameN (M.nd i).attrs) s = (i : Int) then (R o).filter (fun k => asksB (atV nameN (M.nd i).attrs) (M.nd k)) else [] := by
  unfold shwL
  rw [if_neg (by rw [hb]; simp), eo, Int.toNat_natCast]
 rw [hs] at ha
 by_cases c : fstS M R (atV nameN (M.nd i).attrs) s = (i : Int)
 ·rw [if_pos c] at ha
  rw [ha]
  refine List.filter_congr fun k hk => ?_
  have := hm k hk
  rw [ha, List.mem_filter] at this
  by_cases f : findZ M R k = (i : Int)
  ·rw [decide_eq_true f]; exact (this.2 f).2
  ·rw [decide_eq_false f]
   cases hq : asksB (atV nameN (M.nd i).attrs) (M.nd k) with
   | false => rfl
   | true => exact absurd (this.1 ⟨hk, hq⟩) f
 ·rw [if_neg c] at ha
  rw [ha]
  symm
  rw [List.filter_eq_nil_iff]
  intro k hk hd
  have := (hm k hk).2 (of_decide_eq_true hd)
  rw [ha] at this
  cases this
end
section
variable {K : Nat -> Prop} {w : World} {p : Nat} {M : Dm} {R G : Nat -> List Nat} {rk : Nat -> Nat}
theorem Rr.asg_in (h : Rr K w p M R G rk) {i : Nat} (hi : i < M.n) : Calls Tryz.prog 24 #[.pointer (some ⟨p, 0, none⟩), .int .i64 (i : Int)] w (Lst w (asgL M R G i)) := by
 have r1 := h.is_in hi
 obtain ⟨q, hq⟩ : ∃ q, isS M i = q := ⟨_, rfl⟩
 have HQ : Hid (isS M i = q) := hq
 rw [hq] at r1
 clear hq
 have HR : Hid (Rr K w p M R G rk) := h
 have HI : Hid (i < M.n) := hi
 cases q with
 | false =>
  clear h hi
  go_enter Tryz.func24, Tryz.ntmps24
  go_wp2_with (go_at_call 33; refine r1.mono ?_; rintro e1 w3 ⟨rfl, hw3⟩; replace hw3 := hw3.symm; subst hw3)
  go_ret
  rw [asg_not HQ.out]
  exact ⟨none, 0, rfl, OwnZ.nil _ _ _ _, Kept.refl _ _⟩
 | true =>
  obtain ⟨s, hsn, hos, h5⟩ : ∃ s : Nat, s < M.n /\ ofZ M (i : Int) = (s : Int) /\ (M.nd s).kind = 5 := by
   rcases h.inv.ofz hi with ⟨t, ht, _, e, h5⟩ | ⟨t, _, _, e, _⟩
   ·exact ⟨t, ht, e, h5⟩
   ·have := HQ.out
    unfold isS at this
    rw [e] at this
    simp at this
  obtain ⟨o, hon, eo, _⟩ := h.inv.host hsn h5
  have r2 := h.of hi
  rw [hos] at r2
  obtain ⟨g, nc, hrow⟩ := h.r.rowAt
  have HROW : Hid (∀ i, i < M.n -> ∃ aa ac ka kc, ∀ Y, Kept (fun k => k < w.heap.size) w Y -> Y.cell? ⟨p, 1, none⟩ = some (.slice (some ⟨g, 0, none⟩) M.n nc) /\ Y.rangeAt g (i * 14) (rnCells (M.nd i) (M.pl i).up aa ac ka (R i).length kc) /\ AtsAt (fun k => k < Y.heap.size) Y aa (M.nd i).attrs) := hrow
  obtain ⟨sa, sc, sk, skc, hSY⟩ := hrow s hsn
  obtain ⟨m, hm⟩ : ∃ m, M.n = m := ⟨_, rfl⟩
  have HM : Hid (M.n = m) := hm
  have HC1 : Hid (∀ Y, Kept (fun k => k < w.heap.size) w Y -> Y.cell? ⟨p, 1, none⟩ = some (.slice (some ⟨g, 0, none⟩) m nc)) := fun Y h' => by rw [<- hm]; exact (hSY Y h').1
  have c1 := HC1.out w (Kept.refl _ _)
  have c7 : w.cell? ⟨g, s * 14 + 7, none⟩ = some (.int .i64 (M.nd s).host) := (hSY w (Kept.refl _ _)).2.1 7 _ rfl
  have c10 : w.cell? ⟨g, s * 14 + 10, none⟩ = some (.bool (M.nd s).fl.b) := (hSY w (Kept.refl _ _)).2.1 10 _ rfl
  rw [eo] at c7
  have HEO : Hid ((M.nd s).host = (o : Int)) := eo
  have HON : Hid (o < M.n) := hon
  have HOS : Hid (ofZ M (i : Int) = (s : Int)) := hos
  obtain ⟨mb, hmb⟩ : ∃ b, (M.nd s).fl.b = b := ⟨_, rfl⟩
  have HMB : Hid ((M.nd s).fl.b = mb) := hmb
  rw [hmb] at c10
  have hn := h.le
  rw [hm] at hn hsn hon hi
  clear h hrow hSY hm h5 eo hos hmb
  cases mb with
  | true =>
   have rg := rgiven_in K p i M R G w HR.out.r HI.out (Nat.le_trans HR.out.le (by decide)) (Nat.le_trans (nodup_le M.n _ (HR.out.inv.gw.nodup i HI.out) (fun x hx => HR.out.inv.gw.lt i HI.out x hx)) (Nat.le_trans HR.out.le (by decide)))
   have HAS : Hid (asgL M R G i = (G i).filter (fun k => decide ((M.pl k).up = (o : Int)))) := by
    rw [asg_shw HQ.out HOS.out]
    unfold shwL
    rw [if_pos HMB.out, HEO.out]
    exact rfl
   have HLT : Hid (∀ x ∈ G i, x < M.n) := fun x hx => HR.out.inv.gw.lt i HI.out x hx
   have hle := nodup_le M.n _ (HR.out.inv.gw.nodup i HI.out) (fun x hx => HR.out.inv.gw.lt i HI.out x hx)
   rw [HAS.out]
   obtain ⟨L, hL⟩ : ∃ L, G i = L := ⟨_, rfl⟩
   rw [hL] at rg HLT hle ⊢
   rw [HM.out] at hle
   obtain ⟨ll, hll⟩ : ∃ ll, L.length = ll := ⟨_, rfl⟩
   have HLL : Hid (L.length = ll) := hll
   rw [hll] at hle
   clear hL HAS
   go_enter Tryz.func24, Tryz.ntmps24
   go_upto_region 7 with (first | (go_at_call 33; refine r1.mono ?_; rintro e1 w3 ⟨rfl, hw3⟩; replace hw3 := hw3.symm; subst hw3) | (go_at_call 32; refine r2.mono ?_; rintro e1 w3 ⟨rfl, hw3⟩; replace hw3 := hw3.symm; subst hw3))
   clear r1 r2
   go_upto_region 8 with (go_at_call 71; refine rg.mono ?_; rintro e w5 ⟨ta, tc, rfl, hTO, hk5⟩; rw [hll])
   have HRW : Hid (IntsAt (fun g => g < w5.heap.size) w5 ta L) := hTO.intsAt fun g hg => (hTO.out hg).2
   have HK5 : Hid (Kept (fun k => k < w.heap.size) w w5) := hk5
   clear rg hTO hk5 hll c1 c7 c10
   go_upto_region 9 with fail
   go_loopg [5, 9] ll (fun gh v5 v9 wr => ∃ (j n c : Nat) (ao : Option Addr), gh = ll - j /\ j <= ll /\ v9 = .int .i64 (j : Int) /\ v5 = .slice ao n c /\ ((L.take j).filter (fun k => decide ((M.pl k).up = (o : Int)))).length = n /\ OwnZ (fun k => k < w5.heap.size) wr 3 1 ao n c (ivs ((L.take j).filter (fun k => decide ((M.pl k).up = (o : Int))))) /\ Kept (fun k => k < w5.heap.size) w5 wr)
   case atStart => exact ⟨0, 0, 0, none, rfl, Nat.zero_le _, rfl, rfl, rfl, OwnZ.nil _ _ _ _, Kept.refl _ _⟩
   case round =>
    obtain ⟨j, n, c, ao, hgj, hj, rfl, rfl, hln, hO, hK⟩ := hrel
    have hn9 : n <= 100000 := by
     rw [<- hln]
     refine Nat.le_trans (List.length_filter_le _ _) ?_
     rw [List.length_take]
     omega
    have HO : Hid (OwnZ (fun k => k < w5.heap.size) wr 3 1 ao n c (ivs ((L.take j).filter (fun k => decide ((M.pl k).up = (o : Int)))))) := hO
    have HK : Hid (Kept (fun k => k < w5.heap.size) w5 wr) := hK
    have HLN : Hid (((L.take j).filter (fun k => decide ((M.pl k).up = (o : Int)))).length = n) := hln
    have HKW : Hid (Kept (fun k => k < w.heap.size) w wr) := HK5.out.trans (hK.mono fun k h => Nat.lt_of_lt_of_le h HK5.out.size)
    clear hO hK hln
    by_cases hlt : j < ll
    ·have hjL : j < L.length := by rw [HLL.out]; exact hlt
     obtain ⟨b, oo, rfl, hb, dd⟩ := HRW.out j hjL
     have hxn := HLT.out L[j] (List.getElem_mem hjL)
     have htk : L.take (j + 1) = L.take j ++ [L[j]] := List.take_succ_eq_append_getElem hjL
     obtain ⟨x, hx⟩ : ∃ x, L[j] = x := ⟨_, rfl⟩
     rw [hx] at dd hxn htk
     have HTK : Hid (L.take (j + 1) = L.take j ++ [x]) := htk
     obtain ⟨xa, xc, xk, xkc, hXY⟩ := HROW.out x hxn
     have HW : Hid (∀ Y, Kept (fun k => k < wr.heap.size) wr Y -> Kept (fun k => k < w.heap.size) w Y) := fun Y hY => HKW.out.trans (hY.mono fun k h => Nat.lt_of_lt_of_le h HKW.out.size)
     have HDD : Hid (∀ Y, Kept (fun k => k < wr.heap.size) wr Y -> Y.cell? ⟨b, oo + j, none⟩ = some (.int .i64 (x : Int))) := fun Y hY => ((HK.out.trans (hY.mono fun k h => Nat.lt_of_lt_of_le h HK.out.size)).cell (p := ⟨b, oo + j, none⟩) hb).trans dd
     have HE1 : Hid (∀ Y, Kept (fun k => k < wr.heap.size) wr Y -> Y.cell? ⟨p, 1, none⟩ = some (.slice (some ⟨g, 0, none⟩) m nc)) := fun Y hY => HC1.out Y (HW.out Y hY)
     obtain ⟨z, hz⟩ : ∃ z, (M.pl x).up = z := ⟨_, rfl⟩
     have HX4 : Hid (∀ Y, Kept (fun k => k < wr.heap.size) wr Y -> Y.cell? ⟨g, x * 14 + 4, none⟩ = some (.int .i64 z)) := fun Y hY => by rw [<- hz]; exact (hXY Y (HW.out Y hY)).2.1 4 _ rfl
     have hxm : x < m := by rw [<- HM.out]; exact hxn
     obtain ⟨V, hV⟩ : ∃ V, wr.drew = V := ⟨_, rfl⟩
     have HV : Hid (wr.drew = V) := hV
     have hKV : Kept (fun k => k < wr.heap.size) wr V := by rw [<- hV]; exact (Kept.refl _ wr).drew
     have HKV : Hid (Kept (fun k => k < w5.heap.size) w5 V) := HK.out.trans (hKV.mono fun k h => Nat.lt_of_lt_of_le h HK.out.size)
     have HOV : Hid (OwnZ (fun k => k < w5.heap.size) V 3 1 ao n c (ivs ((L.take j).filter (fun k => decide ((M.pl k).up = (o : Int)))))) := HO.out.to (fun q hq => (HO.out.out hq).1) (fun q hq => hKV.block q (HO.out.out hq).2)
     have dv : V.cell? ⟨b, oo + j, none⟩ = some (.int .i64 (x : Int)) := HDD.out V hKV
     obtain ⟨qe, hqe⟩ : ∃ q, (z == (o : Int)) = q := ⟨_, rfl⟩
     have HPX : Hid (decide ((M.pl x).up = (o : Int)) = qe) := by
      rw [hz, <- hqe]
      by_cases cc : z = (o : Int)
      ·rw [decide_eq_true cc, cc]; exact (beq_self_eq_true _).symm
      ·rw [decide_eq_false cc]; exact (beq_eq_false_iff_ne.2 cc).symm
     clear dd hx hxn htk hXY hz hV hKV
     go_upto_region 11 with fail
     refine wp_region_held_drew (S := fun Y => Kept (fun k => k < wr.heap.size) wr Y) (by kernel_rfl) ((Kept.refl _ wr).drew) (fun hHeld => ?_)
     refine tkH 0 46 (.pointer (some ⟨p, 0, none⟩)) rfl rfl (by kernel_rfl) (by rfl) (by intro Y hY; go_simp; try with_reducible rfl) (fun _ _ _ h => h) hHeld ?_
     try simp only [Act.put, sA, s0, s1]
     refine tkH 1 47 (.pointer (some ⟨p, 0, none⟩)) rfl rfl (by kernel_rfl) (by rfl) (by intro Y hY; go_simp; try with_reducible rfl) (fun _ _ _ h => h) hHeld ?_
     try simp only [Act.put, sA, s0, s1]
     refine tkH 2 48 (.pointer (some ⟨p, 1, none⟩)) rfl rfl (by kernel_rfl) (by rfl) (by intro Y hY; go_simp; try with_reducible rfl) (fun _ _ _ h => h) hHeld ?_
     try simp only [Act.put, sA, s0, s1]
     refine tkH 3 49 (.slice (some ⟨g, 0, none⟩) m nc) rfl rfl (by kernel_rfl) (by rfl) (by intro Y hY; have hc := HE1.out Y hY; go_simp; try with_reducible rfl) (fun _ _ _ h => h) hHeld ?_
     try simp only [Act.put, sA, s0, s1]
     refine tkH 4 50 (.slice (some ⟨b, oo, none⟩) ll tc) rfl rfl (by kernel_rfl) (by rfl) (by intro Y hY; go_simp; try with_reducible rfl) (fun _ _ _ h => h) hHeld ?_
     try simp only [Act.put, sA, s0, s1]
     refine tkH 5 51 (.int .i64 (j : Int)) rfl rfl (by kernel_rfl) (by rfl) (by intro Y hY; go_simp; try with_reducible rfl) (fun _ _ _ h => h) hHeld ?_
     try simp only [Act.put, sA, s0, s1]
     refine tkH 6 52 (.pointer (some ⟨b, oo + j, none⟩)) rfl rfl (by kernel_rfl) (by rfl) (by intro Y hY; go_simp; try with_reducible rfl) (fun _ _ _ h => h) hHeld ?_
     try simp only [Act.put, sA, s0, s1]
     refine tkH 7 53 (.int .i64 (x : Int)) rfl rfl (by kernel_rfl) (by rfl) (by intro Y hY; have hc := HDD.out Y hY; go_simp; try with_reducible rfl) (fun _ _ _ h => h) hHeld ?_
     try simp only [Act.put, sA, s0, s1]
     refine tkH 8 54 (.pointer (some ⟨g, x * 14, none⟩)) rfl rfl (by kernel_rfl) (by rfl) (by intro Y hY; go_simp; try with_reducible rfl) (fun _ _ _ h => h) hHeld ?_
     try simp only [Act.put, sA, s0, s1]
     refine tkH 9 55 (.pointer (some ⟨g, x * 14 + 4, none⟩)) rfl rfl (by kernel_rfl) (by rfl) (by intro Y hY; go_simp; try with_reducible rfl) (fun _ _ _ h => h) hHeld ?_
     try simp only [Act.put, sA, s0, s1]
     refine tkH 10 56 (.int .i64 z) rfl rfl (by kernel_rfl) (by rfl) (by intro Y hY; have hc := HX4.out Y hY; go_simp; try with_reducible rfl) (fun _ _ _ h => h) hHeld ?_
     try simp only [Act.put, sA, s0, s1]
     refine tkH 11 57 (.int .i64 (o : Int)) rfl rfl (by kernel_rfl) (by rfl) (by intro Y hY; go_simp; try with_reducible rfl) (fun _ _ _ h => h) hHeld ?_
     try simp only [Act.put, sA, s0, s1]
     cases qe with
     | true =>
      refine tkH 12 58 (.bool true) rfl rfl (by kernel_rfl) (by rfl) (by intro Y hY; go_simp; try with_reducible rfl) (fun _ _ _ h => h) hHeld ?_
      try simp only [Act.put, sA, s0, s1]
      refine wpAnyH_done (by kernel_rfl) ?_ _
      rw [HV.out]
      clear hHeld HV
      have HFL : Hid ((L.take (j + 1)).filter (fun k => decide ((M.pl k).up = (o : Int))) = (L.take j).filter (fun k => decide ((M.pl k).up = (o : Int))) ++ [x]) := by
       rw [HTK.out, List.filter_append]
       congr 1
       simp [HPX.out]
      obtain ⟨ao', c', U, hrun, hO', hK'⟩ := app_one HKV.out HOV.out (by omega) x
      have HOU : Hid (OwnZ (fun k => k < w5.heap.size) U 3 1 ao' (n + 1) c' (ivs ((L.take (j + 1)).filter (fun k => decide ((M.pl k).up = (o : Int))))) /\ Kept (fun k => k < w5.heap.size) w5 U /\ ((L.take (j + 1)).filter (fun k => decide ((M.pl k).up = (o : Int)))).length = n + 1) := by
       rw [HFL.out]
       exact ⟨hO', hK', by rw [List.length_append, HLN.out]; rfl⟩
      clear hO' hK'
      go_upto_region 12 with fail
      go_wp2_with (at_builtin; refine wpList_appR (w' := U) rfl (.tmp 59) (.tmp 64) 33 33 rfl _ _ (.slice ao' (n + 1) c') rfl rfl hrun ?_)
      go_roundg (ll - (j + 1))
      case rel => exact ⟨j + 1, _, _, _, rfl, by omega, by go_num, rfl, HOU.out.2.2, HOU.out.1, HOU.out.2.1⟩
      case measure => omega
     | false =>
      refine tkH 12 58 (.bool false) rfl rfl (by kernel_rfl) (by rfl) (by intro Y hY; go_simp; try with_reducible rfl) (fun _ _ _ h => h) hHeld ?_
      try simp only [Act.put, sA, s0, s1]
      refine wpAnyH_done (by kernel_rfl) ?_ _
      rw [HV.out]
      clear hHeld HV
      have HFL : Hid ((L.take (j + 1)).filter (fun k => decide ((M.pl k).up = (o : Int))) = (L.take j).filter (fun k => decide ((M.pl k).up = (o : Int)))) := by
       rw [HTK.out, List.filter_append, List.filter_cons_of_neg (by simp [HPX.out]), List.filter_nil, List.append_nil]
       exact rfl
      go_wp2
      go_roundg (ll - (j + 1))
      case rel => exact ⟨j + 1, _, _, _, rfl, by omega, by go_num, rfl, by rw [HFL.out]; exact HLN.out, by rw [HFL.out]; exact HOV.out, HKV.out⟩
      case measure => omega
    ·have hjn : ll = j := by omega
     subst hjn
     have hall : L.take ll = L := List.take_of_length_le (by rw [HLL.out]; exact Nat.le_refl _)
     rw [hall] at HO HLN
     go_wp2
     go_ret
     refine ⟨ao, c, by rw [HLN.out]; rfl, by rw [HLN.out]; exact OwnZ.to HO.out (fun q hq hh => (HO.out.out hq).1 (Nat.lt_of_lt_of_le hh HK5.out.size)) (fun _ _ => rfl), HKW.out⟩
  | false =>
   have HAS : Hid (asgL M R G i = (R o).filter (fun k => decide (findZ M R k = (i : Int)))) := HR.out.inv.asg_find HI.out HQ.out HOS.out HMB.out HEO.out HON.out
   have HLT : Hid (∀ x ∈ R o, x < M.n) := fun x hx => HR.out.inv.good.wf.lt o HON.out x hx
   have hle := nodup_le M.n _ (HR.out.inv.good.wf.nodup o HON.out) (fun x hx => HR.out.inv.good.wf.lt o HON.out x hx)
   obtain ⟨g2, nc2, ta, tc, hN2⟩ := HR.out.r.nodeAt HON.out
   have hA2 := hN2 w (Kept.refl _ _)
   have d1 := hA2.c1
   have d5 := hA2.c5
   have hTR := hA2.kid
   rw [HAS.out]
   obtain ⟨L, hL⟩ : ∃ L, R o = L := ⟨_, rfl⟩
   rw [hL] at HLT hle d5 hTR ⊢
   rw [HM.out] at hle d1
   obtain ⟨ll, hll⟩ : ∃ ll, L.length = ll := ⟨_, rfl⟩
   have HLL : Hid (L.length = ll) := hll
   rw [hll] at hle d5
   have HD1 : Hid (w.cell? ⟨p, 1, none⟩ = some (.slice (some ⟨g2, 0, none⟩) m nc2)) := d1
   have HRW : Hid (IntsAt (fun g => g < w.heap.size) w ta L) := hTR
   clear hL HAS hN2 hA2 d1 hTR hll
   go_enter Tryz.func24, Tryz.ntmps24
   go_upto_region 14 with (first | (go_at_call 33; refine r1.mono ?_; rintro e1 w3 ⟨rfl, hw3⟩; replace hw3 := hw3.symm; subst hw3) | (go_at_call 32; refine r2.mono ?_; rintro e1 w3 ⟨rfl, hw3⟩; replace hw3 := hw3.symm; subst hw3))
   clear r1 r2 c1 c7 c10
   have d1 := HD1.out
   go_upto_region 15 with fail
   clear d1 d5 HD1
   go_upto_region 16 with fail
   obtain ⟨w5, hw5⟩ : ∃ w5, w = w5 := ⟨_, rfl⟩
   rw [hw5]
   rw [hw5] at HR HRW
   have HW5 : Hid (w = w5) := hw5
   clear hw5 HROW HC1
   go_loopg [5, 11] ll (fun gh v5 v9 wr => ∃ (j n c : Nat) (ao : Option Addr), gh = ll - j /\ j <= ll /\ v9 = .int .i64 (j : Int) /\ v5 = .slice ao n c /\ ((L.take j).filter (fun k => decide (findZ M R k = (i : Int)))).length = n /\ OwnZ (fun k => k < w5.heap.size) wr 3 1 ao n c (ivs ((L.take j).filter (fun k => decide (findZ M R k = (i : Int))))) /\ Kept (fun k => k < w5.heap.size) w5 wr)
   case atStart => exact ⟨0, 0, 0, none, rfl, Nat.zero_le _, rfl, rfl, rfl, OwnZ.nil _ _ _ _, Kept.refl _ _⟩
   case round =>
    obtain ⟨j, n, c, ao, hgj, hj, rfl, rfl, hln, hO, hK⟩ := hrel
    have hn9 : n <= 100000 := by
     rw [<- hln]
     refine Nat.le_trans (List.length_filter_le _ _) ?_
     rw [List.length_take]
     omega
    have HO : Hid (OwnZ (fun k => k < w5.heap.size) wr 3 1 ao n c (ivs ((L.take j).filter (fun k => decide (findZ M R k = (i : Int)))))) := hO
    have HK : Hid (Kept (fun k => k < w5.heap.size) w5 wr) := hK
    have HLN : Hid (((L.take j).filter (fun k => decide (findZ M R k = (i : Int)))).length = n) := hln
    clear hO hK hln
    by_cases hlt : j < ll
    ·have hjL : j < L.length := by rw [HLL.out]; exact hlt
     obtain ⟨b, oo, rfl, hb, dd⟩ := HRW.out j hjL
     have hxn := HLT.out L[j] (List.getElem_mem hjL)
     have htk : L.take (j + 1) = L.take j ++ [L[j]] := List.take_succ_eq_append_getElem hjL
     obtain ⟨x, hx⟩ : ∃ x, L[j] = x := ⟨_, rfl⟩
     rw [hx] at dd hxn htk
     have HTK : Hid (L.take (j + 1) = L.take j ++ [x]) := htk
     have hd0 : wr.cell? ⟨b, oo + j, none⟩ = some (.int .i64 (x : Int)) := (HK.out.cell (p := ⟨b, oo + j, none⟩) hb).trans dd
     have rf := (HR.out.kept HK.out).find_in hxn
     obtain ⟨z, hz⟩ : ∃ z, findZ M R x = z := ⟨_, rfl⟩
     rw [hz] at rf
     obtain ⟨qe, hqe⟩ : ∃ q, (z == (i : Int)) = q := ⟨_, rfl⟩
     have HPX : Hid (decide (findZ M R x = (i : Int)) = qe) := by
      rw [hz, <- hqe]
      by_cases cc : z = (i : Int)
      ·rw [decide_eq_true cc, cc]; exact (beq_self_eq_true _).symm
      ·rw [decide_eq_false cc]; exact (beq_eq_false_iff_ne.2 cc).symm
     have HBD : Hid (b < w5.heap.size /\ w5.cell? ⟨b, oo + j, none⟩ = some (.int .i64 (x : Int))) := ⟨hb, dd⟩
     clear dd hx hxn htk hz hb
     cases qe with
     | true =>
      go_upto_region 19 with (go_at_call 21; refine rf.mono ?_; rintro e V ⟨rfl, hkV⟩)
      have HKV : Hid (Kept (fun k => k < w5.heap.size) w5 V) := HK.out.trans (hkV.mono fun k h => Nat.lt_of_lt_of_le h HK.out.size)
      have HOV : Hid (OwnZ (fun k => k < w5.heap.size) V 3 1 ao n c (ivs ((L.take j).filter (fun k => decide (findZ M R k = (i : Int)))))) := HO.out.to (fun q hq => (HO.out.out hq).1) (fun q hq => hkV.block q (HO.out.out hq).2)
      have dv : V.cell? ⟨b, oo + j, none⟩ = some (.int .i64 (x : Int)) := (HKV.out.cell (p := ⟨b, oo + j, none⟩) HBD.out.1).trans HBD.out.2
      clear rf hkV hd0
      have HFL : Hid ((L.take (j + 1)).filter (fun k => decide (findZ M R k = (i : Int))) = (L.take j).filter (fun k => decide (findZ M R k = (i : Int))) ++ [x]) := by
       rw [HTK.out, List.filter_append]
       congr 1
       simp [HPX.out]
      obtain ⟨ao', c', U, hrun, hO', hK'⟩ := app_one HKV.out HOV.out (by omega) x
      have HOU : Hid (OwnZ (fun k => k < w5.heap.size) U 3 1 ao' (n + 1) c' (ivs ((L.take (j + 1)).filter (fun k => decide (findZ M R k = (i : Int))))) /\ Kept (fun k => k < w5.heap.size) w5 U /\ ((L.take (j + 1)).filter (fun k => decide (findZ M R k = (i : Int)))).length = n + 1) := by
       rw [HFL.out]
       exact ⟨hO', hK', by rw [List.length_append, HLN.out]; rfl⟩
      clear hO' hK'
      go_wp2_with (at_builtin; refine wpList_appR (w' := U) rfl (.tmp 89) (.tmp 94) 33 33 rfl _ _ (.slice ao' (n + 1) c') rfl rfl hrun ?_)
      go_roundg (ll - (j + 1))
      case rel => exact ⟨j + 1, _, _, _, rfl, by omega, by go_num, rfl, HOU.out.2.2, HOU.out.1, HOU.out.2.1⟩
      case measure => omega
     | false =>
      have HFL : Hid ((L.take (j + 1)).filter (fun k => decide (findZ M R k = (i : Int))) = (L.take j).filter (fun k => decide (findZ M R k = (i : Int)))) := by
       rw [HTK.out, List.filter_append, List.filter_cons_of_neg (by simp [HPX.out]), List.filter_nil, List.append_nil]
       exact rfl
      go_wp2_with fail
      refine rf.mono ?_
      rintro e V ⟨rfl, hkV⟩
      have HKV : Hid (Kept (fun k => k < w5.heap.size) w5 V) := HK.out.trans (hkV.mono fun k h => Nat.lt_of_lt_of_le h HK.out.size)
      have HOV : Hid (OwnZ (fun k => k < w5.heap.size) V 3 1 ao n c (ivs ((L.take j).filter (fun k => decide (findZ M R k = (i : Int)))))) := HO.out.to (fun q hq => (HO.out.out hq).1) (fun q hq => hkV.block q (HO.out.out hq).2)
      clear rf hkV hd0
      go_wp2
      go_roundg (ll - (j + 1))
      case rel => exact ⟨j + 1, _, _, _, rfl, by omega, by go_num, rfl, by rw [HFL.out]; exact HLN.out, by rw [HFL.out]; exact HOV.out, HKV.out⟩
      case measure => omega
    ·have hjn : ll = j := by omega
     subst hjn
     have hall : L.take ll = L := List.take_of_length_le (by rw [HLL.out]; exact Nat.le_refl _)
     rw [hall] at HO HLN
     go_wp2
     go_ret
     refine ⟨ao, c, by rw [HLN.out]; rfl, by rw [HLN.out, HW5.out]; exact HO.out, by rw [HW5.out]; exact HK.out⟩
end
end
section
open Go.RowKit Go.Sort
theorem enter51q (args : Array Value) (X : World) : (callFunc 51 args).run Tryz.prog X = .ok (.enter 51 args) X := entersE Tryz.func51 (by kernel_rfl) (c := _) rfl args X
theorem enter24 (args : Array Value) (X : World) : (callFunc 24 args).run Tryz.prog X = .ok (.enter 24 args) X := entersE Tryz.func24 (by kernel_rfl) (c := _) rfl args X
theorem Grown.rr {K E : Nat -> Prop} {w : World} {p r : Nat} {M : Dm} {R G : Nat -> List Nat} {rk : Nat -> Nat} {lim : Nat} (h : Grown K E w p r M R G rk lim) (hl : lim <= 100000) {X : World} (hk : Kept (fun k => k < w.heap.size) w X) : ∃ K', Rr K' X r M R G rk := ⟨_, h.two.r.kept hk, h.inv, h.nle hl⟩
theorem flost_go (l : List Opx) (n : Nat) (hln : l.length = n) (hnn : n <= 60) (a : Option Addr) (c : Nat) (hok : ∀ o ∈ l, OpOk o) (hb : opsH l <= 6000) (w : World) (h : OpsAt (fun k => k < w.heap.size) w a l) (za : Nat) (hza : za < 65536) :
  Calls Tryz.prog 13 #[.slice a n c, .int .u16 (za : Int)] w fun e w' => e = .returned (.bool true) /\ Kept (fun k => k < w.heap.size) w w' := by
 have rh := heavy13_any l n hln hnn a c (by omega) w h
 rw [decide_eq_false (by omega : ¬ 6000 < opsH l)] at rh
 have RG : Hid (∀ X, Kept (fun k => k < w.heap.size) w X -> Calls Tryz.prog 49 #[.slice a n c] X fun e w' => ∃ p r E M R G rk, e = .returned (.tuple #[.pointer (some ⟨p, 0, none⟩), .pointer (some ⟨r, 0, none⟩)]) /\ Grown (fun k => k < X.heap.size) E w' p r M R G rk 300 /\ Kept (fun k => k < X.heap.size) X w') := fun X hX => grown13 l n hln (by omega) a c hok (by omega) X (h.kept hX fun g hg => Nat.lt_of_lt_of_le hg hX.size)
 clear hln hok hb h
 go_enter Tryz.func13, Tryz.ntmps13
 go_wp2_with fail
 refine rh.mono ?_
 rintro e w1 ⟨rfl, k1⟩
 have rk0 := fknown_any w1
 clear rh
 go_wp2_with fail
 refine rk0.mono ?_
 rintro e w2 ⟨rfl, k2⟩
 have k12 : Kept (fun k => k < w.heap.size) w w2 := k1.trans (k2.mono fun k h => Nat.lt_of_lt_of_le h k1.size)
 have rg := RG.out w2 k12
 have HK12 : Hid (Kept (fun k => k < w.heap.size) w w2) := k12
 clear rk0 k1 k2 k12 RG
 go_wp2_with fail
 refine rg.mono ?_
 rintro e W ⟨p, r, E, M, R, G, rk, rfl, hG, hK⟩
 have HKW : Hid (Kept (fun k => k < w.heap.size) w W) := HK12.out.trans (hK.mono fun k h => Nat.lt_of_lt_of_le h HK12.out.size)
 obtain ⟨m, hm⟩ : ∃ m, M.n = m := ⟨_, rfl⟩
 have HM : Hid (M.n = m) := hm
 have hm300 : m <= 300 := by have h1 := hG.le; rw [hG.lim, hm] at h1; exact h1
 have RL : Hid (∀ X, Kept (fun k => k < W.heap.size) W X -> Calls Tryz.prog 19 #[.pointer (some ⟨p, 0, none⟩)] X fun e w' => e = .returned (.int .i64 (m : Int)) /\ w' = X) := fun X hX => by rw [<- hm]; exact hG.len hX
 have RD : Hid (∀ X, Kept (fun k => k < W.heap.size) W X -> Rd (TK (fun k => k < w2.heap.size) E) X p M R G rk) := fun X hX => hG.rd (by decide) hX
 have HI : Hid (Inv M R G rk) := hG.inv
 have hm1 : 1 <= m := by rw [<- hm]; exact hG.inv.core.pos
 have rl := RL.out W (Kept.refl _ _)
 obtain ⟨i, hi⟩ : ∃ i, za % m = i := ⟨_, rfl⟩
 have him : i < m := by rw [<- hi]; exact Nat.mod_lt _ (by omega)
 have hi' : (za : Int).tmod (m : Int) = (i : Int) := by rw [<- hi]; rfl
 have hin : i < M.n := by rw [hm]; exact him
 have HIN : Hid (i < M.n) := hin
 have rn := (RD.out W (Kept.refl _ _)).node hin
 have RR : Hid (∀ X, Kept (fun k => k < W.heap.size) W X -> ∃ K', Rr K' X r M R G rk) := fun X hX => hG.rr (by decide) hX
 have HUPS : Hid ((M.pl i).up = -1 \/ ∃ u : Nat, u < M.n /\ (M.pl i).up = (u : Int)) := hG.inv.ups' hin
 have RU : Hid (∀ X, Kept (fun k => k < W.heap.size) W X -> Calls Tryz.prog 51 #[.pointer (some ⟨p, 0, none⟩), .int .i64 (i : Int)] X fun e w' => e = .returned (.int .i64 (upZ M R G i)) /\ Kept (fun k => k < X.heap.size) X w') := fun X hX => by
  have := (RD.out X hX).up (i : Int)
  rw [upI_in HIN.out] at this
  exact this
 obtain ⟨Z, hZ⟩ : ∃ Z, upZ M R G i = Z := ⟨_, rfl⟩
 rw [hZ] at RU
 have HZ : Hid (upZ M R G i = Z) := hZ
 clear rg hG hK hm hi hin hZ
 go_upto_region 7 with (go_at_call 19; refine rl.mono ?_; rintro e1 w3 ⟨rfl, hw3⟩; replace hw3 := hw3.symm; subst hw3)
 clear rl
 go_wp2_with fail
 refine rn.mono ?_
 rintro e v1 ⟨ao1, ac1, ko1, kc1, rfl, hO1, hQ1, hK1⟩
 obtain ⟨V1, N1, hV1, hN1, hB1⟩ := BoxN.of (up := (M.pl i).up) hO1 hQ1 hK1
 have HV1 : Hid (v1.alloc (.cells (nV (M.nd i) ao1 ac1 ((M.pl i).up) ko1 (R i).length kc1) 41) = V1) := hV1
 have HN1 : Hid (v1.heap.size = N1) := hN1
 have HB1 : Hid (BoxN W V1 N1 (M.nd i) ((M.pl i).up) (R i) ao1 ac1 ko1 kc1) := hB1
 have c4 := hB1.c4
 have HK1 : Hid (Kept (fun k => k < W.heap.size) W V1) := hB1.kept
 clear rn hO1 hQ1 hK1 hV1 hN1 hB1
 go_upto_region 8 with fail
 rw [HV1.out, HN1.out]
 clear HV1 HN1
 rcases HUPS.out with hu | ⟨u, hun, hu⟩
 ·have HE : Hid (Z = -1) := by
   rw [<- HZ.out]
   unfold upZ
   rw [if_pos hu]
   exact rfl
  rw [hu] at c4
  have rn2 := (RD.out V1 HK1.out).noNode (i := -1) (.inl (by decide))
  clear hu
  go_wp2_with fail
  refine rn2.mono ?_
  rintro e v2 ⟨rfl, hK2⟩
  obtain ⟨V2, N2, hV2, hN2, hb2, hk2, -⟩ := alloc_box v2 zero14 41
  have k2 : Kept (fun k => k < W.heap.size) W V2 := (HK1.out.trans (hK2.mono fun k h => Nat.lt_of_lt_of_le h HK1.out.size)).trans (hk2.mono fun k h => Nat.lt_of_lt_of_le h (Nat.le_trans HK1.out.size hK2.size))
  have HK2 : Hid (Kept (fun k => k < W.heap.size) W V2) := k2
  have rf := RU.out V2 k2
  rw [HE.out] at rf
  have HV2 : Hid (v2.alloc (.cells zero14 41) = V2) := hV2
  have HN2 : Hid (v2.heap.size = N2) := hN2
  clear rn2 hV2 hN2 hb2 hk2 hK2 c4 k2
  go_upto_region 9 with fail
  rw [HV2.out, HN2.out]
  clear HV2 HN2
  go_wp2_with fail
  refine rf.mono ?_
  rintro e w4 ⟨rfl, hk4⟩
  clear rf
  go_wp2
  go_ret
  exact ⟨rfl, HKW.out.trans ((HK2.out.trans (hk4.mono fun k h => Nat.lt_of_lt_of_le h HK2.out.size)).mono fun k h => Nat.lt_of_lt_of_le h HKW.out.size)⟩
 ·rw [hu] at c4
  have HU : Hid ((M.pl i).up = (u : Int)) := hu
  have HUN : Hid (u < M.n) := hun
  have rn2 := (RD.out V1 HK1.out).node hun
  clear hu hun
  go_wp2_with fail
  refine rn2.mono ?_
  rintro e v2 ⟨ao2, ac2, ko2, kc2, rfl, hO2, hQ2, hK2⟩
  obtain ⟨V2, N2, hV2, hN2, hB2⟩ := BoxN.of (up := (M.pl u).up) hO2 hQ2 hK2
  have HV2 : Hid (v2.alloc (.cells (nV (M.nd u) ao2 ac2 ((M.pl u).up) ko2 (R u).length kc2) 41) = V2) := hV2
  have HN2 : Hid (v2.heap.size = N2) := hN2
  have HB2 : Hid (BoxN V1 V2 N2 (M.nd u) ((M.pl u).up) (R u) ao2 ac2 ko2 kc2) := hB2
  have d6 := hB2.c6
  have d0 := hB2.c0
  have HB1b : Hid (BoxN W V2 N1 (M.nd i) (M.pl i).up (R i) ao1 ac1 ko1 kc1) := HB1.out.later hB2.kept
  have HK2 : Hid (Kept (fun k => k < W.heap.size) W V2) := HB1b.out.kept
  have HSH : Hid ((M.nd u).shadow = -1 \/ ∃ s : Nat, s < M.n /\ (M.nd u).shadow = (s : Int)) := (HI.out.core.shad u HUN.out).imp id fun ⟨s, h1, h2, _⟩ => ⟨s, h1, h2⟩
  have H4 : Hid (∀ Y, Kept (fun k => k < V2.heap.size) V2 Y -> Y.cell? ⟨N1, 4, none⟩ = some (.int .i64 (u : Int))) := fun Y hY => by rw [<- HU.out]; exact (HB1b.out.later hY).c4
  have H7' : Hid (∀ Y, Kept (fun k => k < V2.heap.size) V2 Y -> Y.cell? ⟨N2, 7, none⟩ = some (.int .i64 (M.nd u).host)) := fun Y hY => by rw [cell_block (hB2.later hY).blk]; rfl
  have RU2 : Hid (∀ X, Kept (fun k => k < V2.heap.size) V2 X -> Calls Tryz.prog 51 #[.pointer (some ⟨p, 0, none⟩), .int .i64 (i : Int)] X fun e w' => e = .returned (.int .i64 Z) /\ Kept (fun k => k < X.heap.size) X w') := fun X hX => RU.out X (HK2.out.trans (hX.mono fun k h => Nat.lt_of_lt_of_le h HK2.out.size))
  obtain ⟨kd, hkd⟩ : ∃ kd, (M.nd u).kind = kd := ⟨_, rfl⟩
  have HKD : Hid ((M.nd u).kind = kd) := hkd
  rw [hkd] at d0
  clear rn2 hO2 hQ2 hK2 hV2 hN2 hB2 c4 hkd
  go_upto_region 9 with fail
  rw [HV2.out, HN2.out]
  clear HV2 HN2
  rcases HSH.out with hs | ⟨s, hsn, hs⟩
  ·rw [hs] at d6
   have e0 : decide ((-1 : Int) >= 0) = false := by decide
   have HS : Hid ((M.nd u).shadow = -1) := hs
   clear hs
   by_cases k5 : kd = 5
   ·subst k5
    have HZ2 : Hid ((M.nd u).host = Z) := by
     rw [<- HZ.out]
     unfold upZ
     rw [HU.out, Int.toNat_natCast, if_neg (by omega), if_pos HKD.out]
     exact rfl
    have H7 := H7'
    rw [HZ2.out] at H7
    clear H7'
    go_upto_region 14 with fail
    refine wp_region_held_drew (S := fun Y => Kept (fun k => k < V2.heap.size) V2 Y) (by kernel_rfl) ((Kept.refl _ V2).drew) (fun hHeld => ?_)
    refine tkH 0 63 (.pointer (some ⟨p, 0, none⟩)) rfl rfl (by kernel_rfl) (by rfl) (by intro Y hY; go_simp; try with_reducible rfl) (fun _ _ _ h => h) hHeld ?_
    try simp only [Act.put, sA, s0, s1]
    refine tkH 1 64 (.int .i64 (i : Int)) rfl rfl (by kernel_rfl) (by rfl) (by intro Y hY; go_simp; try with_reducible rfl) (fun _ _ _ h => h) hHeld ?_
    try simp only [Act.put, sA, s0, s1]
    refine tkH 3 66 (.pointer (some ⟨N2, 7, none⟩)) rfl rfl (by kernel_rfl) (by rfl) (by intro Y hY; go_simp; try with_reducible rfl) (fun _ _ _ h => h) hHeld ?_
    try simp only [Act.put, sA, s0, s1]
    refine tkH 4 67 (.int .i64 Z) rfl rfl (by kernel_rfl) (by rfl) (by intro Y hY; have hc := H7.out Y hY; go_simp; try with_reducible rfl) (fun _ _ _ h => h) hHeld ?_
    try simp only [Act.put, sA, s0, s1]
    refine clH 2 65 51 #[.pointer (some ⟨p, 0, none⟩), .int .i64 (i : Int)] rfl rfl (by kernel_rfl) (by rfl) rfl (by first | rfl | (simp [Act.eval]; done) | (simp [Act.eval, Act.put]; done)) (enter51q _ _) (RU2.out _ hHeld) ?_
    rintro e Y1 ⟨rfl, hk9⟩
    refine ⟨_, rfl, hHeld.trans (hk9.mono fun k h => Nat.lt_of_lt_of_le h hHeld.size), fun hHeld2 => ?_⟩
    replace hHeld := hHeld2
    clear hHeld2
    try simp only [Act.put, sA, s0, s1]
    refine tkH 5 68 (.bool true) rfl rfl (by kernel_rfl) (by rfl) (by intro Y hY; go_simp; try with_reducible rfl) (fun _ _ _ h => h) hHeld ?_
    try simp only [Act.put, sA, s0, s1]
    refine tkH 6 4 (.bool true) rfl rfl (by kernel_rfl) (by rfl) (by intro Y hY; go_simp; try with_reducible rfl) (fun _ _ _ h => h) hHeld ?_
    try simp only [Act.put, sA, s0, s1]
    refine wpAnyH_done (by kernel_rfl) ?_ _
    have HKF : Hid (Kept (fun k => k < w.heap.size) w Y1) := HKW.out.trans ((HK2.out.trans (hHeld.mono fun k h => Nat.lt_of_lt_of_le h HK2.out.size)).mono fun k h => Nat.lt_of_lt_of_le h HKW.out.size)
    clear hk9 hHeld
    go_wp2
    go_ret
    exact ⟨rfl, HKF.out⟩
   ·have e1 : ((kd : Int) == 5) = false := by simp; omega
    have HZ2 : Hid (Z = if asgL M R G u = [] then (u : Int) else -1) := by
     rw [<- HZ.out]
     unfold upZ
     rw [HU.out, Int.toNat_natCast, if_neg (by omega), if_neg (by rw [HKD.out]; exact k5), if_neg (by rw [HS.out]; simp)]
     exact rfl
    have RA2 : Hid (∀ X, Kept (fun k => k < V2.heap.size) V2 X -> Calls Tryz.prog 24 #[.pointer (some ⟨r, 0, none⟩), .int .i64 (u : Int)] X (Lst X (asgL M R G u))) := fun X hX => by
     obtain ⟨K', hR⟩ := RR.out X (HK2.out.trans (hX.mono fun k h => Nat.lt_of_lt_of_le h HK2.out.size))
     exact hR.asg_in HUN.out
    obtain ⟨Q, hQ⟩ : ∃ Q, asgL M R G u = Q := ⟨_, rfl⟩
    rw [hQ] at HZ2 RA2
    clear k5 hQ
    go_upto_region 15 with fail
    cases Q with
    | nil =>
     have hz : Z = (u : Int) := by rw [HZ2.out, if_pos rfl]
     subst hz
     have e2 : ((u : Int) == -1) = false := by simp <;> omega
     refine wp_region_held_drew (S := fun Y => Kept (fun k => k < V2.heap.size) V2 Y) (by kernel_rfl) ((Kept.refl _ V2).drew) (fun hHeld => ?_)
     refine tkH 0 69 (.pointer (some ⟨p, 0, none⟩)) rfl rfl (by kernel_rfl) (by rfl) (by intro Y hY; go_simp; try with_reducible rfl) (fun _ _ _ h => h) hHeld ?_
     try simp only [Act.put, sA, s0, s1]
     refine tkH 1 70 (.int .i64 (i : Int)) rfl rfl (by kernel_rfl) (by rfl) (by intro Y hY; go_simp; try with_reducible rfl) (fun _ _ _ h => h) hHeld ?_
     try simp only [Act.put, sA, s0, s1]
     refine tkH 4 73 (.pointer (some ⟨r, 0, none⟩)) rfl rfl (by kernel_rfl) (by rfl) (by intro Y hY; go_simp; try with_reducible rfl) (fun _ _ _ h => h) hHeld ?_
     try simp only [Act.put, sA, s0, s1]
     refine tkH 5 74 (.pointer (some ⟨N1, 4, none⟩)) rfl rfl (by kernel_rfl) (by rfl) (by intro Y hY; go_simp; try with_reducible rfl) (fun _ _ _ h => h) hHeld ?_
     try simp only [Act.put, sA, s0, s1]
     refine tkH 6 75 (.int .i64 (u : Int)) rfl rfl (by kernel_rfl) (by rfl) (by intro Y hY; have hc := H4.out Y hY; go_simp; try with_reducible rfl) (fun _ _ _ h => h) hHeld ?_
     try simp only [Act.put, sA, s0, s1]
     refine clH 2 71 51 #[.pointer (some ⟨p, 0, none⟩), .int .i64 (i : Int)] rfl rfl (by kernel_rfl) (by rfl) rfl (by first | rfl | (simp [Act.eval]; done) | (simp [Act.eval, Act.put]; done)) (enter51q _ _) (RU2.out _ hHeld) ?_
     rintro e Y1 ⟨rfl, hk9⟩
     refine ⟨_, rfl, hHeld.trans (hk9.mono fun k h => Nat.lt_of_lt_of_le h hHeld.size), fun hHeld2 => ?_⟩
     replace hHeld := hHeld2
     clear hHeld2
     try simp only [Act.put, sA, s0, s1]
     refine tkH 3 72 (.bool false) rfl rfl (by kernel_rfl) (by rfl) (by intro Y hY; go_simp; try with_reducible rfl) (fun _ _ _ h => h) hHeld ?_
     try simp only [Act.put, sA, s0, s1]
     refine clH 7 76 24 #[.pointer (some ⟨r, 0, none⟩), .int .i64 (u : Int)] rfl rfl (by kernel_rfl) (by rfl) rfl (by first | rfl | (simp [Act.eval]; done) | (simp [Act.eval, Act.put]; done)) (enter24 _ _) (RA2.out _ hHeld) ?_
     rintro e Y2 ⟨ta, tc, rfl, hTO, hk8⟩
     refine ⟨_, rfl, hHeld.trans (hk8.mono fun k h => Nat.lt_of_lt_of_le h hHeld.size), fun hHeld2 => ?_⟩
     replace hHeld := hHeld2
     clear hHeld2
     try simp only [Act.put, sA, s0, s1]
     refine tkH 8 77 (.int .i64 (0 : Int)) rfl rfl (by kernel_rfl) (by rfl) (by intro Y hY; go_simp; try with_reducible rfl) (fun _ _ _ h => h) hHeld ?_
     try simp only [Act.put, sA, s0, s1]
     refine tkH 9 78 (.bool false) rfl rfl (by kernel_rfl) (by rfl) (by intro Y hY; go_simp; try with_reducible rfl) (fun _ _ _ h => h) hHeld ?_
     try simp only [Act.put, sA, s0, s1]
     refine tkH 10 79 (.bool true) rfl rfl (by kernel_rfl) (by rfl) (by intro Y hY; go_simp; try with_reducible rfl) (fun _ _ _ h => h) hHeld ?_
     try simp only [Act.put, sA, s0, s1]
     refine tkH 11 4 (.bool true) rfl rfl (by kernel_rfl) (by rfl) (by intro Y hY; go_simp; try with_reducible rfl) (fun _ _ _ h => h) hHeld ?_
     try simp only [Act.put, sA, s0, s1]
     refine wpAnyH_done (by kernel_rfl) ?_ _
     clear hTO hk8
     have HKF : Hid (Kept (fun k => k < w.heap.size) w Y2) := HKW.out.trans ((HK2.out.trans (hHeld.mono fun k h => Nat.lt_of_lt_of_le h HK2.out.size)).mono fun k h => Nat.lt_of_lt_of_le h HKW.out.size)
     clear hk9 hHeld
     go_wp2
     go_ret
     exact ⟨rfl, HKF.out⟩
    | cons q Q =>
     have hz : Z = -1 := by rw [HZ2.out, if_neg (by simp)]
     subst hz
     have hql : (q :: Q).length = Q.length + 1 := rfl
     obtain ⟨lq, hlq⟩ : ∃ lq, (q :: Q).length = lq := ⟨_, rfl⟩
     have hlq1 : 0 < lq := by rw [<- hlq, hql]; omega
     have e2 : decide ((lq : Int) > 0) = true := decide_eq_true (by omega)
     have RA3 : Hid (∀ X, Kept (fun k => k < V2.heap.size) V2 X -> Calls Tryz.prog 24 #[.pointer (some ⟨r, 0, none⟩), .int .i64 (u : Int)] X fun e w' => ∃ ao c, e = .returned (.slice ao lq c) /\ True /\ Kept (fun k => k < X.heap.size) X w') := fun X hX => (RA2.out X hX).mono fun e w' ⟨ao, c, he, _, hk⟩ => ⟨ao, c, by rw [he, hlq], trivial, hk⟩
     clear hlq hql RA2
     have RA2 := RA3
     clear RA3
     refine wp_region_held_drew (S := fun Y => Kept (fun k => k < V2.heap.size) V2 Y) (by kernel_rfl) ((Kept.refl _ V2).drew) (fun hHeld => ?_)
     refine tkH 0 69 (.pointer (some ⟨p, 0, none⟩)) rfl rfl (by kernel_rfl) (by rfl) (by intro Y hY; go_simp; try with_reducible rfl) (fun _ _ _ h => h) hHeld ?_
     try simp only [Act.put, sA, s0, s1]
     refine tkH 1 70 (.int .i64 (i : Int)) rfl rfl (by kernel_rfl) (by rfl) (by intro Y hY; go_simp; try with_reducible rfl) (fun _ _ _ h => h) hHeld ?_
     try simp only [Act.put, sA, s0, s1]
     refine tkH 4 73 (.pointer (some ⟨r, 0, none⟩)) rfl rfl (by kernel_rfl) (by rfl) (by intro Y hY; go_simp; try with_reducible rfl) (fun _ _ _ h => h) hHeld ?_
     try simp only [Act.put, sA, s0, s1]
     refine tkH 5 74 (.pointer (some ⟨N1, 4, none⟩)) rfl rfl (by kernel_rfl) (by rfl) (by intro Y hY; go_simp; try with_reducible rfl) (fun _ _ _ h => h) hHeld ?_
     try simp only [Act.put, sA, s0, s1]
     refine tkH 6 75 (.int .i64 (u : Int)) rfl rfl (by kernel_rfl) (by rfl) (by intro Y hY; have hc := H4.out Y hY; go_simp; try with_reducible rfl) (fun _ _ _ h => h) hHeld ?_
     try simp only [Act.put, sA, s0, s1]
     refine clH 2 71 51 #[.pointer (some ⟨p, 0, none⟩), .int .i64 (i : Int)] rfl rfl (by kernel_rfl) (by rfl) rfl (by first | rfl | (simp [Act.eval]; done) | (simp [Act.eval, Act.put]; done)) (enter51q _ _) (RU2.out _ hHeld) ?_
     rintro e Y1 ⟨rfl, hk9⟩
     refine ⟨_, rfl, hHeld.trans (hk9.mono fun k h => Nat.lt_of_lt_of_le h hHeld.size), fun hHeld2 => ?_⟩
     replace hHeld := hHeld2
     clear hHeld2
     try simp only [Act.put, sA, s0, s1]
     refine tkH 3 72 (.bool true) rfl rfl (by kernel_rfl) (by rfl) (by intro Y hY; go_simp; try with_reducible rfl) (fun _ _ _ h => h) hHeld ?_
     try simp only [Act.put, sA, s0, s1]
     refine clH 7 76 24 #[.pointer (some ⟨r, 0, none⟩), .int .i64 (u : Int)] rfl rfl (by kernel_rfl) (by rfl) rfl (by first | rfl | (simp [Act.eval]; done) | (simp [Act.eval, Act.put]; done)) (enter24 _ _) (RA2.out _ hHeld) ?_
     rintro e Y2 ⟨ta, tc, rfl, hTO, hk8⟩
     refine ⟨_, rfl, hHeld.trans (hk8.mono fun k h => Nat.lt_of_lt_of_le h hHeld.size), fun hHeld2 => ?_⟩
     replace hHeld := hHeld2
     clear hHeld2
     try simp only [Act.put, sA, s0, s1]
     refine tkH 8 77 (.int .i64 (lq : Int)) rfl rfl (by kernel_rfl) (by rfl) (by intro Y hY; go_simp; try with_reducible rfl) (fun _ _ _ h => h) hHeld ?_
     try simp only [Act.put, sA, s0, s1]
     refine tkH 9 78 (.bool true) rfl rfl (by kernel_rfl) (by rfl) (by intro Y hY; go_simp; try with_reducible rfl) (fun _ _ _ h => h) hHeld ?_
     try simp only [Act.put, sA, s0, s1]
     refine tkH 10 79 (.bool true) rfl rfl (by kernel_rfl) (by rfl) (by intro Y hY; go_simp; try with_reducible rfl) (fun _ _ _ h => h) hHeld ?_
     try simp only [Act.put, sA, s0, s1]
     refine tkH 11 4 (.bool true) rfl rfl (by kernel_rfl) (by rfl) (by intro Y hY; go_simp; try with_reducible rfl) (fun _ _ _ h => h) hHeld ?_
     try simp only [Act.put, sA, s0, s1]
     refine wpAnyH_done (by kernel_rfl) ?_ _
     clear hTO hk8
     have HKF : Hid (Kept (fun k => k < w.heap.size) w Y2) := HKW.out.trans ((HK2.out.trans (hHeld.mono fun k h => Nat.lt_of_lt_of_le h HK2.out.size)).mono fun k h => Nat.lt_of_lt_of_le h HKW.out.size)
     clear hk9 hHeld
     go_wp2
     go_ret
     exact ⟨rfl, HKF.out⟩
  ·rw [hs] at d6
   have HS : Hid ((M.nd u).shadow = (s : Int)) := hs
   have e0 : decide ((s : Int) >= 0) = true := decide_eq_true (by omega)
   have HZ2 : Hid (Z = findZ M R i) := by
    rw [<- HZ.out]
    unfold upZ
    rw [HU.out, Int.toNat_natCast, if_neg (by omega), if_neg (fun h5 => by have := HI.out.shd5 HUN.out h5; have := HS.out; omega), if_pos (by rw [HS.out]; omega)]
    exact rfl
   have rf := RU2.out V2 (Kept.refl _ _)
   clear hs hsn
   go_wp2_with fail
   refine rf.mono ?_
   rintro e w4 ⟨rfl, hk4⟩
   have HK4 : Hid (Kept (fun k => k < W.heap.size) W w4) := HK2.out.trans (hk4.mono fun k h => Nat.lt_of_lt_of_le h HK2.out.size)
   obtain ⟨K', hR⟩ := RR.out w4 HK4.out
   have rg := hR.find_in HIN.out
   rw [<- HZ2.out] at rg
   clear rf hk4 hR
   go_wp2_with fail
   refine rg.mono ?_
   rintro e w5 ⟨rfl, hk5⟩
   have HKF : Hid (Kept (fun k => k < w.heap.size) w w5) := HKW.out.trans ((HK4.out.trans (hk5.mono fun k h => Nat.lt_of_lt_of_le h HK4.out.size)).mono fun k h => Nat.lt_of_lt_of_le h HKW.out.size)
   clear rg hk5
   go_wp2
   go_ret
   exact ⟨by simp, HKF.out⟩
theorem flost_no (a : Option Addr) (n c : Nat) (w : World) (za : Int) (rh : Calls Tryz.prog 47 #[.slice a n c] w fun e w' => e = .returned (.bool true) /\ Kept (fun k => k < w.heap.size) w w') :
  Calls Tryz.prog 13 #[.slice a n c, .int .u16 za] w fun e w' => e = .returned (.bool true) /\ Kept (fun k => k < w.heap.size) w w' := by
 go_enter Tryz.func13, Tryz.ntmps13
 go_wp2_with fail
 refine rh.mono ?_
 rintro e w1 ⟨rfl, k1⟩
 have rk0 := fknown_any w1
 clear rh
 go_wp2_with (go_at_call 48; refine rk0.mono ?_; rintro e w2 ⟨rfl, k2⟩)
 go_ret
 exact ⟨rfl, k1.trans (k2.mono fun k h => Nat.lt_of_lt_of_le h k1.size)⟩
end
end Go.Proofs.YtljnjdckhkglfaaGreat
