/-
  The document's own slots: Assigned.
-/
import Derived.Test.YtfeinppedejlpaaGreatKFc
import Derived.Test.YtfeinppedejlpaaGreatKFy
namespace Go.Proofs.YtfeinppedejlpaaGreat
set_option maxHeartbeats 8000000
set_option maxRecDepth 100000
open Go.RowKit Go.Sort
set_option linter.unusedVariables false
theorem zk6 {w5 V : World} {ao : Option Addr} {n c : Nat} {Q : List Nat} (hK : Kept (fun k => k < w5.heap.size) w5 V) (hO : Zac (fun k => k < w5.heap.size) V 3 1 ao n c (ivs Q)) (hn : n <= 100000) (x : Nat) :
  ∃ ao' c' U, (Builtin.append_ #[33, 33] 33 #[.slice ao n c, .slice (some ⟨V.heap.size, 0, none⟩) 1 1]).run Tryz.prog (V.alloc (.cells #[.int .i64 (x : Int)] 3)) = .ok (.slice ao' (n + 1) c') U /\ Zac (fun k => k < w5.heap.size) U 3 1 ao' (n + 1) c' (ivs (Q ++ [x])) /\ Kept (fun k => k < w5.heap.size) w5 U := by
 obtain ⟨Z, hZ⟩ : ∃ Z, V.alloc (.cells #[.int .i64 (x : Int)] 3) = Z := ⟨_, rfl⟩
 have hbz : Z.heap[V.heap.size]? = some (.cells #[.int .i64 (x : Int)] 3 (0, 0)) := by rw [<- hZ]; exact heap_alloc_new V _
 have kZ : Kept (fun k => k < V.heap.size) V Z := by rw [<- hZ]; exact (Kept.refl _ V).alloc (fun _ h => h) _
 have hOZ : Zac (fun k => k < w5.heap.size) Z 3 1 ao n c (ivs Q) := hO.to (fun q hq => (hO.out hq).1) (fun q hq => kZ.block q (hO.out hq).2)
 have hIZ : Zad (fun _ => True) Z (some ⟨V.heap.size, 0, none⟩) [x] := fun i hi => by
  have : i = 0 := by simpa using hi
  subst this
  exact ⟨V.heap.size, 0, rfl, trivial, by rw [zaa hbz]; rfl⟩
 rw [hZ]
 obtain ⟨ao', c', U, hrun, hO', hK'⟩ := zcf (ac := 1) hOZ rfl hIZ (fun k h => ltl h (Nat.le_trans hK.size kZ.size)) (by omega) (by show 1 <= 100000000; decide)
 exact ⟨ao', c', U, hrun, hO', (kt hK kZ).trans hK'⟩
section
variable {M : Dm} {R G : Nat -> List Nat} {rk : Nat -> Nat}
theorem zs1 {i : Nat} (h : isS M i = false) : za8 M R G i = [] := by
 unfold za8
 rw [if_pos]
 unfold isS at h
 cases c : za9 (M.nd i) with
 | false => exact .inl rfl
 | true =>
  rw [c] at h
  right
  simpa using h
theorem znh {i s : Nat} (hsl : isS M i = true) (ho : ofZ M (i : Int) = (s : Int)) : za8 M R G i = zd7 M R G i s := by
 unfold za8
 have h1 : za9 (M.nd i) = true := by unfold isS at hsl; simp at hsl; exact hsl.1
 rw [h1, ho, if_neg (by rintro (hh | hh); cases hh; omega), Int.toNat_natCast]
theorem Inv.asg_find (h : Inv M R G rk) {i s o : Nat} (hi : i < M.n) (hsl : isS M i = true) (ho : ofZ M (i : Int) = (s : Int)) (hb : (M.nd s).fl.b = false) (eo : (M.nd s).host = (o : Int)) (hon : o < M.n) : za8 M R G i = (R o).filter fun k => decide (zbi M R k = (i : Int)) := by
 have ha := znh (G := G) (R := R) hsl ho
 have hm : ∀ k ∈ R o, (k ∈ za8 M R G i ↔ zbi M R k = (i : Int)) := fun k hk => h.asg hi (h.good.wf.lt o hon k hk)
 have hs : zd7 M R G i s = if zkf M R (atV zbp (M.nd i).attrs) s = (i : Int) then (R o).filter (fun k => zca (atV zbp (M.nd i).attrs) (M.nd k)) else [] := by
  unfold zd7
  rw [if_neg (by rw [hb]; simp), eo, Int.toNat_natCast]
 rw [hs] at ha
 by_cases c : zkf M R (atV zbp (M.nd i).attrs) s = (i : Int)
 ·rw [if_pos c] at ha
  rw [ha]
  refine List.filter_congr fun k hk => ?_
  have := hm k hk
  rw [ha, List.mem_filter] at this
  by_cases f : zbi M R k = (i : Int)
  ·rw [decide_eq_true f]; exact (this.2 f).2
  ·rw [decide_eq_false f]
   cases hq : zca (atV zbp (M.nd i).attrs) (M.nd k) with
   | false => rfl
   | true => exact absurd (this.1 ⟨hk, hq⟩) f
 ·rw [if_neg c] at ha
  rw [ha]
  symm
  rw [List.filter_eq_nil_iff]
  intro k hk hd
  have := (hm k hk).2 (of_decide_eq_true hd)
  rw [ha] at this
  cases this
end
section
variable {K : Nat -> Prop} {w : World} {p : Nat} {M : Dm} {R G : Nat -> List Nat} {rk : Nat -> Nat}
theorem Rr.asg_no (h : Rr K w p M R G rk) {i : Int} (hi : i < 0 \/ (M.n : Int) <= i) : Calls Tryz.prog 20 #[.pointer (some ⟨p, 0, none⟩), .int .i64 i] w (Lst w []) := by
 have r1 := h.is_no hi
 clear h hi
 go_enter Tryz.func20, Tryz.ntmps20
 go_wp2_with (go_at_call 82; refine r1.mono ?_; rintro e1 w3 ⟨rfl, hw3⟩; replace hw3 := hw3.symm; subst hw3)
 go_ret
 exact ⟨none, 0, rfl, Zac.nil _ _ _ _, Kept.refl _ _⟩
theorem Rr.asg_in (h : Rr K w p M R G rk) {i : Nat} (hi : i < M.n) : Calls Tryz.prog 20 #[.pointer (some ⟨p, 0, none⟩), .int .i64 (i : Int)] w (Lst w (za8 M R G i)) := by
 have r1 := h.is_in hi
 obtain ⟨q, hq⟩ : ∃ q, isS M i = q := ⟨_, rfl⟩
 have HQ : Hid (isS M i = q) := hq
 rw [hq] at r1
 clear hq
 have HR : Hid (Rr K w p M R G rk) := h
 have HI : Hid (i < M.n) := hi
 cases q with
 | false =>
  clear h hi
  go_enter Tryz.func20, Tryz.ntmps20
  go_wp2_with (go_at_call 82; refine r1.mono ?_; rintro e1 w3 ⟨rfl, hw3⟩; replace hw3 := hw3.symm; subst hw3)
  go_ret
  rw [zs1 HQ.out]
  exact ⟨none, 0, rfl, Zac.nil _ _ _ _, Kept.refl _ _⟩
 | true =>
  obtain ⟨s, hsn, hos, h5⟩ : ∃ s : Nat, s < M.n /\ ofZ M (i : Int) = (s : Int) /\ (M.nd s).kind = 5 := by
   rcases h.inv.ofz hi with ⟨t, ht, _, e, h5⟩ | ⟨t, _, _, e, _⟩
   ·exact ⟨t, ht, e, h5⟩
   ·have := HQ.out
    unfold isS at this
    rw [e] at this
    simp at this
  obtain ⟨o, hon, eo, _⟩ := h.inv.host hsn h5
  have r2 := h.of hi
  rw [hos] at r2
  obtain ⟨g, nc, hrow⟩ := h.r.rowAt
  have HROW : Hid (∀ i, i < M.n -> ∃ aa ac ka kc, ∀ Y, Kept (fun k => k < w.heap.size) w Y -> Y.cell? ⟨p, 1, none⟩ = some (.slice (some ⟨g, 0, none⟩) M.n nc) /\ Y.rangeAt g (i * 14) (zbd (M.nd i) (M.pl i).up aa ac ka (R i).length kc) /\ Zal (fun k => k < Y.heap.size) Y aa (M.nd i).attrs) := hrow
  obtain ⟨sa, sc, sk, skc, hSY⟩ := hrow s hsn
  obtain ⟨m, hm⟩ : ∃ m, M.n = m := ⟨_, rfl⟩
  have HM : Hid (M.n = m) := hm
  have HC1 : Hid (∀ Y, Kept (fun k => k < w.heap.size) w Y -> Y.cell? ⟨p, 1, none⟩ = some (.slice (some ⟨g, 0, none⟩) m nc)) := fun Y h' => by rw [<- hm]; exact (hSY Y h').1
  have c1 := HC1.out w (Kept.refl _ _)
  have c7 : w.cell? ⟨g, s * 14 + 7, none⟩ = some (.int .i64 (M.nd s).host) := (hSY w (Kept.refl _ _)).2.1 7 _ rfl
  have c10 : w.cell? ⟨g, s * 14 + 10, none⟩ = some (.bool (M.nd s).fl.b) := (hSY w (Kept.refl _ _)).2.1 10 _ rfl
  rw [eo] at c7
  have HEO : Hid ((M.nd s).host = (o : Int)) := eo
  have HON : Hid (o < M.n) := hon
  have HOS : Hid (ofZ M (i : Int) = (s : Int)) := hos
  obtain ⟨mb, hmb⟩ : ∃ b, (M.nd s).fl.b = b := ⟨_, rfl⟩
  have HMB : Hid ((M.nd s).fl.b = mb) := hmb
  rw [hmb] at c10
  have hn := h.le
  rw [hm] at hn hsn hon hi
  clear h hrow hSY hm h5 eo hos hmb
  cases mb with
  | true =>
   have rg := zpn K p i M R G w HR.out.r HI.out (Nat.le_trans HR.out.le (by decide)) (Nat.le_trans (za4 M.n _ (HR.out.inv.gw.nodup i HI.out) (fun x hx => HR.out.inv.gw.lt i HI.out x hx)) (Nat.le_trans HR.out.le (by decide)))
   have HAS : Hid (za8 M R G i = (G i).filter (fun k => decide ((M.pl k).up = (o : Int)))) := by
    rw [znh HQ.out HOS.out]
    unfold zd7
    rw [if_pos HMB.out, HEO.out]
    exact rfl
   have HLT : Hid (∀ x ∈ G i, x < M.n) := fun x hx => HR.out.inv.gw.lt i HI.out x hx
   have hle := za4 M.n _ (HR.out.inv.gw.nodup i HI.out) (fun x hx => HR.out.inv.gw.lt i HI.out x hx)
   rw [HAS.out]
   obtain ⟨L, hL⟩ : ∃ L, G i = L := ⟨_, rfl⟩
   rw [hL] at rg HLT hle ⊢
   rw [HM.out] at hle
   obtain ⟨ll, hll⟩ : ∃ ll, L.length = ll := ⟨_, rfl⟩
   have HLL : Hid (L.length = ll) := hll
   rw [hll] at hle
   clear hL HAS
   go_enter Tryz.func20, Tryz.ntmps20
   go_upto_region 7 with (first | (go_at_call 82; refine r1.mono ?_; rintro e1 w3 ⟨rfl, hw3⟩; replace hw3 := hw3.symm; subst hw3) | (go_at_call 78; refine r2.mono ?_; rintro e1 w3 ⟨rfl, hw3⟩; replace hw3 := hw3.symm; subst hw3))
   clear r1 r2
   go_upto_region 8 with (go_at_call 83; refine rg.mono ?_; rintro e w5 ⟨ta, tc, rfl, hTO, hk5⟩; rw [hll])
   have HRW : Hid (Zad (fun g => g < w5.heap.size) w5 ta L) := hTO.intsAt fun g hg => (hTO.out hg).2
   have HK5 : Hid (Kept (fun k => k < w.heap.size) w w5) := hk5
   clear rg hTO hk5 hll c1 c7 c10
   go_upto_region 9 with fail
   go_loopg [5, 9] ll (fun gh v5 v9 wr => ∃ (j n c : Nat) (ao : Option Addr), gh = ll - j /\ j <= ll /\ v9 = .int .i64 (j : Int) /\ v5 = .slice ao n c /\ ((L.take j).filter (fun k => decide ((M.pl k).up = (o : Int)))).length = n /\ Zac (fun k => k < w5.heap.size) wr 3 1 ao n c (ivs ((L.take j).filter (fun k => decide ((M.pl k).up = (o : Int))))) /\ Kept (fun k => k < w5.heap.size) w5 wr)
   case atStart => exact ⟨0, 0, 0, none, rfl, Nat.zero_le _, rfl, rfl, rfl, Zac.nil _ _ _ _, Kept.refl _ _⟩
   case round =>
    obtain ⟨j, n, c, ao, hgj, hj, rfl, rfl, hln, hO, hK⟩ := hrel
    have hn9 : n <= 100000 := by
     rw [<- hln]
     refine Nat.le_trans (List.length_filter_le _ _) ?_
     rw [List.length_take]
     omega
    have HO : Hid (Zac (fun k => k < w5.heap.size) wr 3 1 ao n c (ivs ((L.take j).filter (fun k => decide ((M.pl k).up = (o : Int)))))) := hO
    have HK : Hid (Kept (fun k => k < w5.heap.size) w5 wr) := hK
    have HLN : Hid (((L.take j).filter (fun k => decide ((M.pl k).up = (o : Int)))).length = n) := hln
    have HKW : Hid (Kept (fun k => k < w.heap.size) w wr) := kt HK5.out hK
    clear hO hK hln
    by_cases hlt : j < ll
    ·have hjL : j < L.length := by rw [HLL.out]; exact hlt
     obtain ⟨b, oo, rfl, hb, dd⟩ := HRW.out j hjL
     have hxn := HLT.out L[j] (List.getElem_mem hjL)
     have htk : L.take (j + 1) = L.take j ++ [L[j]] := List.take_succ_eq_append_getElem hjL
     obtain ⟨x, hx⟩ : ∃ x, L[j] = x := ⟨_, rfl⟩
     rw [hx] at dd hxn htk
     have HTK : Hid (L.take (j + 1) = L.take j ++ [x]) := htk
     obtain ⟨xa, xc, xk, xkc, hXY⟩ := HROW.out x hxn
     have HW : Hid (∀ Y, Kept (fun k => k < wr.heap.size) wr Y -> Kept (fun k => k < w.heap.size) w Y) := fun Y hY => kt HKW.out hY
     have HDD : Hid (∀ Y, Kept (fun k => k < wr.heap.size) wr Y -> Y.cell? ⟨b, oo + j, none⟩ = some (.int .i64 (x : Int))) := fun Y hY => ((kt HK.out hY).cell (p := ⟨b, oo + j, none⟩) hb).trans dd
     have HE1 : Hid (∀ Y, Kept (fun k => k < wr.heap.size) wr Y -> Y.cell? ⟨p, 1, none⟩ = some (.slice (some ⟨g, 0, none⟩) m nc)) := fun Y hY => HC1.out Y (HW.out Y hY)
     obtain ⟨z, hz⟩ : ∃ z, (M.pl x).up = z := ⟨_, rfl⟩
     have HX4 : Hid (∀ Y, Kept (fun k => k < wr.heap.size) wr Y -> Y.cell? ⟨g, x * 14 + 4, none⟩ = some (.int .i64 z)) := fun Y hY => by rw [<- hz]; exact (hXY Y (HW.out Y hY)).2.1 4 _ rfl
     have hxm : x < m := by rw [<- HM.out]; exact hxn
     obtain ⟨V, hV⟩ : ∃ V, wr.drew = V := ⟨_, rfl⟩
     have HV : Hid (wr.drew = V) := hV
     have hKV : Kept (fun k => k < wr.heap.size) wr V := by rw [<- hV]; exact (Kept.refl _ wr).drew
     have HKV : Hid (Kept (fun k => k < w5.heap.size) w5 V) := kt HK.out hKV
     have HOV : Hid (Zac (fun k => k < w5.heap.size) V 3 1 ao n c (ivs ((L.take j).filter (fun k => decide ((M.pl k).up = (o : Int)))))) := HO.out.to (fun q hq => (HO.out.out hq).1) (fun q hq => hKV.block q (HO.out.out hq).2)
     have dv : V.cell? ⟨b, oo + j, none⟩ = some (.int .i64 (x : Int)) := HDD.out V hKV
     obtain ⟨qe, hqe⟩ : ∃ q, (z == (o : Int)) = q := ⟨_, rfl⟩
     have HPX : Hid (decide ((M.pl x).up = (o : Int)) = qe) := by
      rw [hz, <- hqe]
      by_cases cc : z = (o : Int)
      ·rw [decide_eq_true cc, cc]; exact (beq_self_eq_true _).symm
      ·rw [decide_eq_false cc]; exact (beq_eq_false_iff_ne.2 cc).symm
     clear dd hx hxn htk hXY hz hV hKV
     go_upto_region 11 with fail
     refine wp_region_held_drew (S := fun Y => Kept (fun k => k < wr.heap.size) wr Y) (by kernel_rfl) ((Kept.refl _ wr).drew) (fun hHeld => ?_)
     refine tkH 0 46 (.pointer (some ⟨p, 0, none⟩)) rfl rfl (by kernel_rfl) (by rfl) (by intro Y hY; go_simp; try with_reducible rfl) (fun _ _ _ h => h) hHeld ?_
     try simp only [Act.put, List.setIfInBounds_toArray, List.set_cons_zero, List.set_cons_succ]
     refine tkH 1 47 (.pointer (some ⟨p, 0, none⟩)) rfl rfl (by kernel_rfl) (by rfl) (by intro Y hY; go_simp; try with_reducible rfl) (fun _ _ _ h => h) hHeld ?_
     try simp only [Act.put, List.setIfInBounds_toArray, List.set_cons_zero, List.set_cons_succ]
     refine tkH 2 48 (.pointer (some ⟨p, 1, none⟩)) rfl rfl (by kernel_rfl) (by rfl) (by intro Y hY; go_simp; try with_reducible rfl) (fun _ _ _ h => h) hHeld ?_
     try simp only [Act.put, List.setIfInBounds_toArray, List.set_cons_zero, List.set_cons_succ]
     refine tkH 3 49 (.slice (some ⟨g, 0, none⟩) m nc) rfl rfl (by kernel_rfl) (by rfl) (by intro Y hY; have hc := HE1.out Y hY; go_simp; try with_reducible rfl) (fun _ _ _ h => h) hHeld ?_
     try simp only [Act.put, List.setIfInBounds_toArray, List.set_cons_zero, List.set_cons_succ]
     refine tkH 4 50 (.slice (some ⟨b, oo, none⟩) ll tc) rfl rfl (by kernel_rfl) (by rfl) (by intro Y hY; go_simp; try with_reducible rfl) (fun _ _ _ h => h) hHeld ?_
     try simp only [Act.put, List.setIfInBounds_toArray, List.set_cons_zero, List.set_cons_succ]
     refine tkH 5 51 (.int .i64 (j : Int)) rfl rfl (by kernel_rfl) (by rfl) (by intro Y hY; go_simp; try with_reducible rfl) (fun _ _ _ h => h) hHeld ?_
     try simp only [Act.put, List.setIfInBounds_toArray, List.set_cons_zero, List.set_cons_succ]
     refine tkH 6 52 (.pointer (some ⟨b, oo + j, none⟩)) rfl rfl (by kernel_rfl) (by rfl) (by intro Y hY; go_simp; try with_reducible rfl) (fun _ _ _ h => h) hHeld ?_
     try simp only [Act.put, List.setIfInBounds_toArray, List.set_cons_zero, List.set_cons_succ]
     refine tkH 7 53 (.int .i64 (x : Int)) rfl rfl (by kernel_rfl) (by rfl) (by intro Y hY; have hc := HDD.out Y hY; go_simp; try with_reducible rfl) (fun _ _ _ h => h) hHeld ?_
     try simp only [Act.put, List.setIfInBounds_toArray, List.set_cons_zero, List.set_cons_succ]
     refine tkH 8 54 (.pointer (some ⟨g, x * 14, none⟩)) rfl rfl (by kernel_rfl) (by rfl) (by intro Y hY; go_simp; try with_reducible rfl) (fun _ _ _ h => h) hHeld ?_
     try simp only [Act.put, List.setIfInBounds_toArray, List.set_cons_zero, List.set_cons_succ]
     refine tkH 9 55 (.pointer (some ⟨g, x * 14 + 4, none⟩)) rfl rfl (by kernel_rfl) (by rfl) (by intro Y hY; go_simp; try with_reducible rfl) (fun _ _ _ h => h) hHeld ?_
     try simp only [Act.put, List.setIfInBounds_toArray, List.set_cons_zero, List.set_cons_succ]
     refine tkH 10 56 (.int .i64 z) rfl rfl (by kernel_rfl) (by rfl) (by intro Y hY; have hc := HX4.out Y hY; go_simp; try with_reducible rfl) (fun _ _ _ h => h) hHeld ?_
     try simp only [Act.put, List.setIfInBounds_toArray, List.set_cons_zero, List.set_cons_succ]
     refine tkH 11 57 (.int .i64 (o : Int)) rfl rfl (by kernel_rfl) (by rfl) (by intro Y hY; go_simp; try with_reducible rfl) (fun _ _ _ h => h) hHeld ?_
     try simp only [Act.put, List.setIfInBounds_toArray, List.set_cons_zero, List.set_cons_succ]
     cases qe with
     | true =>
      refine tkH 12 58 (.bool true) rfl rfl (by kernel_rfl) (by rfl) (by intro Y hY; go_simp; try with_reducible rfl) (fun _ _ _ h => h) hHeld ?_
      try simp only [Act.put, List.setIfInBounds_toArray, List.set_cons_zero, List.set_cons_succ]
      refine wpAnyH_done (by kernel_rfl) ?_ _
      rw [HV.out]
      clear hHeld HV
      have HFL : Hid ((L.take (j + 1)).filter (fun k => decide ((M.pl k).up = (o : Int))) = (L.take j).filter (fun k => decide ((M.pl k).up = (o : Int))) ++ [x]) := by
       rw [HTK.out, List.filter_append]
       congr 1
       simp [HPX.out]
      obtain ⟨ao', c', U, hrun, hO', hK'⟩ := zk6 HKV.out HOV.out (by omega) x
      have HOU : Hid (Zac (fun k => k < w5.heap.size) U 3 1 ao' (n + 1) c' (ivs ((L.take (j + 1)).filter (fun k => decide ((M.pl k).up = (o : Int))))) /\ Kept (fun k => k < w5.heap.size) w5 U /\ ((L.take (j + 1)).filter (fun k => decide ((M.pl k).up = (o : Int)))).length = n + 1) := by
       rw [HFL.out]
       exact ⟨hO', hK', by rw [List.length_append, HLN.out]; rfl⟩
      clear hO' hK'
      go_upto_region 12 with fail
      go_wp2_with (at_builtin; refine zae (w' := U) rfl (.tmp 59) (.tmp 64) 33 33 rfl _ _ (.slice ao' (n + 1) c') rfl rfl hrun ?_)
      go_roundg (ll - (j + 1))
      case rel => exact ⟨j + 1, _, _, _, rfl, by omega, by go_num, rfl, HOU.out.2.2, HOU.out.1, HOU.out.2.1⟩
      case measure => omega
     | false =>
      refine tkH 12 58 (.bool false) rfl rfl (by kernel_rfl) (by rfl) (by intro Y hY; go_simp; try with_reducible rfl) (fun _ _ _ h => h) hHeld ?_
      try simp only [Act.put, List.setIfInBounds_toArray, List.set_cons_zero, List.set_cons_succ]
      refine wpAnyH_done (by kernel_rfl) ?_ _
      rw [HV.out]
      clear hHeld HV
      have HFL : Hid ((L.take (j + 1)).filter (fun k => decide ((M.pl k).up = (o : Int))) = (L.take j).filter (fun k => decide ((M.pl k).up = (o : Int)))) := by
       rw [HTK.out, List.filter_append, List.filter_cons_of_neg (by simp [HPX.out]), List.filter_nil, List.append_nil]
       exact rfl
      go_wp2
      go_roundg (ll - (j + 1))
      case rel => exact ⟨j + 1, _, _, _, rfl, by omega, by go_num, rfl, by rw [HFL.out]; exact HLN.out, by rw [HFL.out]; exact HOV.out, HKV.out⟩
      case measure => omega
    ·have hjn : ll = j := by omega
     subst hjn
     have hall : L.take ll = L := List.take_of_length_le (by rw [HLL.out]; exact Nat.le_refl _)
     rw [hall] at HO HLN
     go_wp2
     go_ret
     refine ⟨ao, c, by rw [HLN.out]; rfl, by rw [HLN.out]; exact Zac.to HO.out (fun q hq hh => (HO.out.out hq).1 (ltl hh HK5.out.size)) (fun _ _ => rfl), HKW.out⟩
  | false =>
   have HAS : Hid (za8 M R G i = (R o).filter (fun k => decide (zbi M R k = (i : Int)))) := HR.out.inv.asg_find HI.out HQ.out HOS.out HMB.out HEO.out HON.out
   have HLT : Hid (∀ x ∈ R o, x < M.n) := fun x hx => HR.out.inv.good.wf.lt o HON.out x hx
   have hle := za4 M.n _ (HR.out.inv.good.wf.nodup o HON.out) (fun x hx => HR.out.inv.good.wf.lt o HON.out x hx)
   obtain ⟨g2, nc2, ta, tc, hN2⟩ := HR.out.r.nodeAt HON.out
   have hA2 := hN2 w (Kept.refl _ _)
   have d1 := hA2.c1
   have d5 := hA2.c5
   have hTR := hA2.kid
   rw [HAS.out]
   obtain ⟨L, hL⟩ : ∃ L, R o = L := ⟨_, rfl⟩
   rw [hL] at HLT hle d5 hTR ⊢
   rw [HM.out] at hle d1
   obtain ⟨ll, hll⟩ : ∃ ll, L.length = ll := ⟨_, rfl⟩
   have HLL : Hid (L.length = ll) := hll
   rw [hll] at hle d5
   have HD1 : Hid (w.cell? ⟨p, 1, none⟩ = some (.slice (some ⟨g2, 0, none⟩) m nc2)) := d1
   have HRW : Hid (Zad (fun g => g < w.heap.size) w ta L) := hTR
   clear hL HAS hN2 hA2 d1 hTR hll
   go_enter Tryz.func20, Tryz.ntmps20
   go_upto_region 14 with (first | (go_at_call 82; refine r1.mono ?_; rintro e1 w3 ⟨rfl, hw3⟩; replace hw3 := hw3.symm; subst hw3) | (go_at_call 78; refine r2.mono ?_; rintro e1 w3 ⟨rfl, hw3⟩; replace hw3 := hw3.symm; subst hw3))
   clear r1 r2 c1 c7 c10
   have d1 := HD1.out
   go_upto_region 15 with fail
   clear d1 d5 HD1
   go_upto_region 16 with fail
   obtain ⟨w5, hw5⟩ : ∃ w5, w = w5 := ⟨_, rfl⟩
   rw [hw5]
   rw [hw5] at HR HRW
   have HW5 : Hid (w = w5) := hw5
   clear hw5 HROW HC1
   go_loopg [5, 11] ll (fun gh v5 v9 wr => ∃ (j n c : Nat) (ao : Option Addr), gh = ll - j /\ j <= ll /\ v9 = .int .i64 (j : Int) /\ v5 = .slice ao n c /\ ((L.take j).filter (fun k => decide (zbi M R k = (i : Int)))).length = n /\ Zac (fun k => k < w5.heap.size) wr 3 1 ao n c (ivs ((L.take j).filter (fun k => decide (zbi M R k = (i : Int))))) /\ Kept (fun k => k < w5.heap.size) w5 wr)
   case atStart => exact ⟨0, 0, 0, none, rfl, Nat.zero_le _, rfl, rfl, rfl, Zac.nil _ _ _ _, Kept.refl _ _⟩
   case round =>
    obtain ⟨j, n, c, ao, hgj, hj, rfl, rfl, hln, hO, hK⟩ := hrel
    have hn9 : n <= 100000 := by
     rw [<- hln]
     refine Nat.le_trans (List.length_filter_le _ _) ?_
     rw [List.length_take]
     omega
    have HO : Hid (Zac (fun k => k < w5.heap.size) wr 3 1 ao n c (ivs ((L.take j).filter (fun k => decide (zbi M R k = (i : Int)))))) := hO
    have HK : Hid (Kept (fun k => k < w5.heap.size) w5 wr) := hK
    have HLN : Hid (((L.take j).filter (fun k => decide (zbi M R k = (i : Int)))).length = n) := hln
    clear hO hK hln
    by_cases hlt : j < ll
    ·have hjL : j < L.length := by rw [HLL.out]; exact hlt
     obtain ⟨b, oo, rfl, hb, dd⟩ := HRW.out j hjL
     have hxn := HLT.out L[j] (List.getElem_mem hjL)
     have htk : L.take (j + 1) = L.take j ++ [L[j]] := List.take_succ_eq_append_getElem hjL
     obtain ⟨x, hx⟩ : ∃ x, L[j] = x := ⟨_, rfl⟩
     rw [hx] at dd hxn htk
     have HTK : Hid (L.take (j + 1) = L.take j ++ [x]) := htk
     have hd0 : wr.cell? ⟨b, oo + j, none⟩ = some (.int .i64 (x : Int)) := (HK.out.cell (p := ⟨b, oo + j, none⟩) hb).trans dd
     have rf := (HR.out.kept HK.out).find_in hxn
     obtain ⟨z, hz⟩ : ∃ z, zbi M R x = z := ⟨_, rfl⟩
     rw [hz] at rf
     obtain ⟨qe, hqe⟩ : ∃ q, (z == (i : Int)) = q := ⟨_, rfl⟩
     have HPX : Hid (decide (zbi M R x = (i : Int)) = qe) := by
      rw [hz, <- hqe]
      by_cases cc : z = (i : Int)
      ·rw [decide_eq_true cc, cc]; exact (beq_self_eq_true _).symm
      ·rw [decide_eq_false cc]; exact (beq_eq_false_iff_ne.2 cc).symm
     have HBD : Hid (b < w5.heap.size /\ w5.cell? ⟨b, oo + j, none⟩ = some (.int .i64 (x : Int))) := ⟨hb, dd⟩
     clear dd hx hxn htk hz hb
     cases qe with
     | true =>
      go_upto_region 19 with (go_at_call 17; refine rf.mono ?_; rintro e V ⟨rfl, hkV⟩)
      have HKV : Hid (Kept (fun k => k < w5.heap.size) w5 V) := kt HK.out hkV
      have HOV : Hid (Zac (fun k => k < w5.heap.size) V 3 1 ao n c (ivs ((L.take j).filter (fun k => decide (zbi M R k = (i : Int)))))) := HO.out.to (fun q hq => (HO.out.out hq).1) (fun q hq => hkV.block q (HO.out.out hq).2)
      have dv : V.cell? ⟨b, oo + j, none⟩ = some (.int .i64 (x : Int)) := (HKV.out.cell (p := ⟨b, oo + j, none⟩) HBD.out.1).trans HBD.out.2
      clear rf hkV hd0
      have HFL : Hid ((L.take (j + 1)).filter (fun k => decide (zbi M R k = (i : Int))) = (L.take j).filter (fun k => decide (zbi M R k = (i : Int))) ++ [x]) := by
       rw [HTK.out, List.filter_append]
       congr 1
       simp [HPX.out]
      obtain ⟨ao', c', U, hrun, hO', hK'⟩ := zk6 HKV.out HOV.out (by omega) x
      have HOU : Hid (Zac (fun k => k < w5.heap.size) U 3 1 ao' (n + 1) c' (ivs ((L.take (j + 1)).filter (fun k => decide (zbi M R k = (i : Int))))) /\ Kept (fun k => k < w5.heap.size) w5 U /\ ((L.take (j + 1)).filter (fun k => decide (zbi M R k = (i : Int)))).length = n + 1) := by
       rw [HFL.out]
       exact ⟨hO', hK', by rw [List.length_append, HLN.out]; rfl⟩
      clear hO' hK'
      go_wp2_with (at_builtin; refine zae (w' := U) rfl (.tmp 89) (.tmp 94) 33 33 rfl _ _ (.slice ao' (n + 1) c') rfl rfl hrun ?_)
      go_roundg (ll - (j + 1))
      case rel => exact ⟨j + 1, _, _, _, rfl, by omega, by go_num, rfl, HOU.out.2.2, HOU.out.1, HOU.out.2.1⟩
      case measure => omega
     | false =>
      have HFL : Hid ((L.take (j + 1)).filter (fun k => decide (zbi M R k = (i : Int))) = (L.take j).filter (fun k => decide (zbi M R k = (i : Int)))) := by
       rw [HTK.out, List.filter_append, List.filter_cons_of_neg (by simp [HPX.out]), List.filter_nil, List.append_nil]
       exact rfl
      go_wp2_with fail
      refine rf.mono ?_
      rintro e V ⟨rfl, hkV⟩
      have HKV : Hid (Kept (fun k => k < w5.heap.size) w5 V) := kt HK.out hkV
      have HOV : Hid (Zac (fun k => k < w5.heap.size) V 3 1 ao n c (ivs ((L.take j).filter (fun k => decide (zbi M R k = (i : Int)))))) := HO.out.to (fun q hq => (HO.out.out hq).1) (fun q hq => hkV.block q (HO.out.out hq).2)
      clear rf hkV hd0
      go_wp2
      go_roundg (ll - (j + 1))
      case rel => exact ⟨j + 1, _, _, _, rfl, by omega, by go_num, rfl, by rw [HFL.out]; exact HLN.out, by rw [HFL.out]; exact HOV.out, HKV.out⟩
      case measure => omega
    ·have hjn : ll = j := by omega
     subst hjn
     have hall : L.take ll = L := List.take_of_length_le (by rw [HLL.out]; exact Nat.le_refl _)
     rw [hall] at HO HLN
     go_wp2
     go_ret
     refine ⟨ao, c, by rw [HLN.out]; rfl, by rw [HLN.out, HW5.out]; exact HO.out, by rw [HW5.out]; exact HK.out⟩
end
end Go.Proofs.YtfeinppedejlpaaGreat
