/-
  The document's own slots: Flat.
-/
import Derived.Test.YtfeinppedejlpaaGreatKFd
import Derived.Test.YtfeinppedejlpaaGreatKE02
namespace Go.Proofs.YtfeinppedejlpaaGreat
set_option maxHeartbeats 8000000
set_option maxRecDepth 100000
open Go.RowKit Go.Sort
set_option linter.unusedVariables false
section
variable {K : Nat -> Prop} {w : World} {p : Nat} {M : Dm} {R G : Nat -> List Nat} {rk : Nat -> Nat}
theorem Rr.flat_no (h : Rr K w p M R G rk) {i : Int} (hi : i < 0 \/ (M.n : Int) <= i) : Calls Tryz.prog 22 #[.pointer (some ⟨p, 0, none⟩), .int .i64 i] w (Lst w []) := by
 have r1 := h.is_no hi
 clear h hi
 go_enter Tryz.func22, Tryz.ntmps22
 go_wp2_with (go_at_call 82; refine r1.mono ?_; rintro e1 w3 ⟨rfl, hw3⟩; replace hw3 := hw3.symm; subst hw3)
 go_ret
 exact ⟨none, 0, rfl, Zac.nil _ _ _ _, Kept.refl _ _⟩
theorem Rr.flat_at : ∀ (d i : Nat), dn M.n (rkA M R) i < d -> i < M.n -> ∀ (w : World), Rr K w p M R G rk -> Calls Tryz.prog 22 #[.pointer (some ⟨p, 0, none⟩), .int .i64 (i : Int)] w (Lst w (zbc M R G i)) := by
 intro d
 induction d with
 | zero => exact fun i h => absurd h (Nat.not_lt_zero _)
 | succ d ih =>
  intro i hdi hi w h
  have r1 := h.is_in hi
  obtain ⟨q, hq⟩ : ∃ q, isS M i = q := ⟨_, rfl⟩
  have HQ : Hid (isS M i = q) := hq
  rw [hq] at r1
  clear hq
  have HR : Hid (Rr K w p M R G rk) := h
  have HI : Hid (i < M.n) := hi
  cases q with
  | false =>
   have HE : Hid (zbc M R G i = []) := by
    have hh := HQ.out
    have h2 : zbc M R G i = [] := by unfold zbc; rw [hh, if_neg (by simp)]
    exact h2
   clear h hi ih hdi
   go_enter Tryz.func22, Tryz.ntmps22
   go_wp2_with (go_at_call 82; refine r1.mono ?_; rintro e1 w3 ⟨rfl, hw3⟩; replace hw3 := hw3.symm; subst hw3)
   go_ret
   rw [HE.out]
   exact ⟨none, 0, rfl, Zac.nil _ _ _ _, Kept.refl _ _⟩
  | true =>
   have HF := h.inv.nxt_falls (G := G)
   have HIH : Hid (∀ k, k ∈ nxt M R G i -> ∀ X, Rr K X p M R G rk -> Calls Tryz.prog 22 #[.pointer (some ⟨p, 0, none⟩), .int .i64 (k : Int)] X (Lst X (zbc M R G k))) := fun k hk X hX => by
    obtain ⟨h1, h2⟩ := HF i hi k hk
    have := zfh h1 h2
    exact ih k (by omega) h1 X hX
   have HEQ : Hid (zbc M R G i = (nxt M R G i).flatMap (zax M R G)) := h.inv.flat_eq hi HQ.out
   have HNX : Hid (∀ k ∈ nxt M R G i, k < M.n) := fun k hk => (HF i hi k hk).1
   have hnl : (nxt M R G i).length <= 100000 := Nat.le_trans (za4 M.n _ (h.inv.nxt_nd (G := G) hi) (fun x hx => (HF i hi x hx).1)) h.le
   have hfl : (zbc M R G i).length <= 100000 := Nat.le_trans (h.inv.flat_len hi) h.le
   have HFL : Hid ((zbc M R G i).length <= 100000) := hfl
   have r2 := h.asg_in hi
   obtain ⟨A, hA⟩ : ∃ A, za8 M R G i = A := ⟨_, rfl⟩
   rw [hA] at r2
   have hnx : nxt M R G i = if A = [] then (R i).filter (fun k => za0 (M.nd k)) else A := by
    unfold nxt
    rw [HQ.out, if_neg (by simp), hA]
   have HNXT : Hid (nxt M R G i = if A = [] then (R i).filter (fun k => za0 (M.nd k)) else A) := hnx
   obtain ⟨g2, nc2, ta, tc, hN2⟩ := h.r.nodeAt hi
   have HND : Hid (∀ Y, Kept (fun k => k < w.heap.size) w Y -> Y.cell? ⟨p, 1, none⟩ = some (.slice (some ⟨g2, 0, none⟩) M.n nc2) /\ Y.cell? ⟨g2, i * 14 + 5, none⟩ = some (.slice ta (R i).length tc) /\ Zad (fun g => g < Y.heap.size) Y ta (R i)) := fun Y hY => ⟨(hN2 Y hY).c1, (hN2 Y hY).c5, (hN2 Y hY).kid.to (fun q hq => ltl hq hY.size) (fun _ _ => rfl)⟩
   have HRL : Hid ((R i).length <= 100000) := Nat.le_trans (za4 M.n _ (h.inv.good.wf.nodup i hi) (fun x hx => h.inv.good.wf.lt i hi x hx)) h.le
   have HRI : Hid (∀ x ∈ R i, x < M.n) := fun x hx => h.inv.good.wf.lt i hi x hx
   have hMl := h.le
   clear ih hdi HF hA hnx hN2 h hfl
   obtain ⟨al, hal⟩ : ∃ al, A.length = al := ⟨_, rfl⟩
   obtain ⟨m, hm⟩ : ∃ m, M.n = m := ⟨_, rfl⟩
   have HMM : Hid (M.n = m) := hm
   by_cases hA0 : A = []
   ·subst hA0
    have hnx0 : nxt M R G i = (R i).filter (fun k => za0 (M.nd k)) := by rw [HNXT.out, if_pos rfl]
    have HNX0 : Hid (nxt M R G i = (R i).filter (fun k => za0 (M.nd k))) := hnx0
    obtain ⟨L, hL⟩ : ∃ L, R i = L := ⟨_, rfl⟩
    obtain ⟨ll, hll⟩ : ∃ ll, L.length = ll := ⟨_, rfl⟩
    have HLL : Hid (L.length = ll) := hll
    have hlb : ll <= 100000 := by rw [<- hll, <- hL]; exact HRL.out
    rw [hL] at HNX0 HND HRI
    rw [hm] at HND hi
    rw [hll] at HND
    have hmb : m <= 100000 := by rw [<- hm]; exact hMl
    clear hal hnx0 hL hll hm HRL
    go_enter Tryz.func22, Tryz.ntmps22
    go_upto_region 4 with (go_at_call 82; refine r1.mono ?_; rintro e1 w3 ⟨rfl, hw3⟩; replace hw3 := hw3.symm; subst hw3)
    clear r1
    go_upto_region 5 with (go_at_call 20; refine r2.mono ?_; rintro e w1 ⟨aa, ac, rfl, hLO, hk1⟩)
    have d1 := (HND.out w1 hk1).1
    have d5 := (HND.out w1 hk1).2.1
    have HKR : Hid (Zad (fun g => g < w1.heap.size) w1 ta L) := (HND.out w1 hk1).2.2
    have HK1 : Hid (Kept (fun k => k < w.heap.size) w w1) := hk1
    have HO1 : Hid (Zac (fun k => k < w.heap.size) w1 3 1 aa 0 ac (ivs [])) := hLO
    have HIW : Hid (Zad (fun g => g < w.heap.size) w ta L) := (HND.out w (Kept.refl _ _)).2.2
    clear r2 hLO hk1
    try rw [List.length_nil]
    go_upto_region 8 with fail
    clear d1 d5
    go_loopg [6, 8] ll (fun gh v6 v8 wr => ∃ (j n c : Nat) (ao : Option Addr), gh = ll - j /\ j <= ll /\ v8 = .int .i64 (j : Int) /\ v6 = .slice ao n c /\ ((L.take j).filter (fun k => za0 (M.nd k))).length = n /\ Zac (fun k => k < w.heap.size) wr 3 1 ao n c (ivs ((L.take j).filter (fun k => za0 (M.nd k)))) /\ Kept (fun k => k < w.heap.size) w wr)
    case atStart => exact ⟨0, 0, ac, aa, rfl, Nat.zero_le _, rfl, rfl, rfl, HO1.out, HK1.out⟩
    case round =>
     obtain ⟨j, n, c, ao, hgj, hj, rfl, rfl, hln, hO, hK⟩ := hrel
     have hn9 : n <= 100000 := by
      rw [<- hln]
      refine Nat.le_trans (List.length_filter_le _ _) ?_
      rw [List.length_take]
      omega
     have HO : Hid (Zac (fun k => k < w.heap.size) wr 3 1 ao n c (ivs ((L.take j).filter (fun k => za0 (M.nd k))))) := hO
     have HK : Hid (Kept (fun k => k < w.heap.size) w wr) := hK
     have HLN : Hid (((L.take j).filter (fun k => za0 (M.nd k))).length = n) := hln
     clear hO hK hln
     by_cases hlt : j < ll
     ·have hjL : j < L.length := by rw [HLL.out]; exact hlt
      obtain ⟨b, oo, rfl, hb, dd⟩ := HIW.out j hjL
      have hxn := HRI.out L[j] (List.getElem_mem hjL)
      have htk : L.take (j + 1) = L.take j ++ [L[j]] := List.take_succ_eq_append_getElem hjL
      obtain ⟨x, hx⟩ : ∃ x, L[j] = x := ⟨_, rfl⟩
      rw [hx] at dd hxn htk
      have hd0 : wr.cell? ⟨b, oo + j, none⟩ = some (.int .i64 (x : Int)) := (HK.out.cell (p := ⟨b, oo + j, none⟩) hb).trans dd
      have rs := (HR.out.kept HK.out).shown_in hxn
      obtain ⟨qe, hqe⟩ : ∃ q, za0 (M.nd x) = q := ⟨_, rfl⟩
      rw [hqe] at rs
      have HFI : Hid ((L.take (j + 1)).filter (fun k => za0 (M.nd k)) = (L.take j).filter (fun k => za0 (M.nd k)) ++ if qe = true then [x] else []) := by
       rw [htk, List.filter_append, List.filter_cons, hqe]
       cases qe <;> exact rfl
      clear dd hx hxn htk hqe hb
      cases qe with
      | true =>
       obtain ⟨ao', c', U, hrun, hO', hK'⟩ := zk6 HK.out HO.out (by omega) x
       have HOU : Hid (((L.take (j + 1)).filter (fun k => za0 (M.nd k))).length = n + 1 /\ Zac (fun k => k < w.heap.size) U 3 1 ao' (n + 1) c' (ivs ((L.take (j + 1)).filter (fun k => za0 (M.nd k)))) /\ Kept (fun k => k < w.heap.size) w U) := by
        rw [HFI.out, if_pos rfl]
        exact ⟨by rw [List.length_append, HLN.out]; rfl, hO', hK'⟩
       clear hO' hK'
       go_upto_region 11 with (go_at_call 76; refine rs.mono ?_; rintro e1 w3 ⟨rfl, hw3⟩; replace hw3 := hw3.symm; subst hw3)
       clear rs
       go_wp2_with (at_builtin; refine zae (w' := U) rfl (.tmp 41) (.tmp 46) 33 33 rfl _ _ (.slice ao' (n + 1) c') rfl rfl hrun ?_)
       go_roundg (ll - (j + 1))
       case rel => exact ⟨j + 1, n + 1, c', ao', rfl, by omega, by go_num, rfl, HOU.out.1, HOU.out.2.1, HOU.out.2.2⟩
       case measure => omega
      | false =>
       have HOU : Hid (((L.take (j + 1)).filter (fun k => za0 (M.nd k))).length = n /\ Zac (fun k => k < w.heap.size) wr 3 1 ao n c (ivs ((L.take (j + 1)).filter (fun k => za0 (M.nd k))))) := by
        rw [HFI.out, if_neg (by simp), List.append_nil]
        exact ⟨HLN.out, HO.out⟩
       go_wp2_with (go_at_call 76; refine rs.mono ?_; rintro e1 w3 ⟨rfl, hw3⟩; replace hw3 := hw3.symm; subst hw3)
       go_roundg (ll - (j + 1))
       case rel => exact ⟨j + 1, n, c, ao, rfl, by omega, by go_num, rfl, HOU.out.1, HOU.out.2, HK.out⟩
       case measure => omega
     ·have hjn : j = ll := by omega
      have hft : (L.take j).filter (fun k => za0 (M.nd k)) = nxt M R G i := by rw [HNX0.out, List.take_of_length_le (by rw [HLL.out]; omega)]
      have hnl0 : (nxt M R G i).length = n := by rw [<- hft]; exact HLN.out
      have HL : Hid (Zac (fun k => k < w.heap.size) wr 3 1 ao n c (ivs (nxt M R G i))) := by rw [<- hft]; exact HO.out
      have HKL : Hid (Kept (fun k => k < w.heap.size) w wr) := HK.out
      obtain ⟨wo, rfl⟩ : ∃ wo, wo = wr := ⟨_, rfl⟩
      clear hgj hj hjn hft HO HK HLN HIW HO1 HK1 HKR
      have HNL : Hid ((nxt M R G i).length = n) := hnl0
      obtain ⟨nl, hnl⟩ : ∃ nl, nl = n := ⟨_, rfl⟩
      subst hnl
      have HRW : Hid (Zad (fun g => g < wo.heap.size) wo ao (nxt M R G i)) := HL.out.intsAt fun g hg => (HL.out.out hg).2
      clear hnl0 HL
      go_upto_region 13 with fail
      go_loopg [5, 9] nl (fun gh v5 v9 wr => ∃ (j n c : Nat) (ao : Option Addr), gh = nl - j /\ j <= nl /\ v9 = .int .i64 (j : Int) /\ v5 = .slice ao n c /\ (((nxt M R G i).take j).flatMap (zax M R G)).length = n /\ Zac (fun k => k < wo.heap.size) wr 3 1 ao n c (ivs (((nxt M R G i).take j).flatMap (zax M R G))) /\ Kept (fun k => k < wo.heap.size) wo wr)
      case atStart => exact ⟨0, 0, 0, none, rfl, Nat.zero_le _, rfl, rfl, rfl, Zac.nil _ _ _ _, Kept.refl _ _⟩
      case round =>
       obtain ⟨j, n, c, ao, hgj, hj, rfl, rfl, hln, hO, hK⟩ := hrel
       have hn9 : n <= 100000 := by
        rw [<- hln]
        refine Nat.le_trans ?_ HFL.out
        rw [HEQ.out]
        conv => rhs; rw [<- List.take_append_drop j (nxt M R G i), List.flatMap_append, List.length_append]
        omega
       have HO : Hid (Zac (fun k => k < wo.heap.size) wr 3 1 ao n c (ivs (((nxt M R G i).take j).flatMap (zax M R G)))) := hO
       have HK : Hid (Kept (fun k => k < wo.heap.size) wo wr) := hK
       have HLN : Hid ((((nxt M R G i).take j).flatMap (zax M R G)).length = n) := hln
       have HKW : Hid (Kept (fun k => k < w.heap.size) w wr) := kt HKL.out hK
       clear hO hK hln
       by_cases hlt : j < nl
       ·have hjL : j < (nxt M R G i).length := by rw [HNL.out]; exact hlt
        obtain ⟨b, oo, rfl, hb, dd⟩ := HRW.out j hjL
        have hmem : (nxt M R G i)[j] ∈ nxt M R G i := List.getElem_mem hjL
        have hxn := HNX.out _ hmem
        have htk : (nxt M R G i).take (j + 1) = (nxt M R G i).take j ++ [(nxt M R G i)[j]] := List.take_succ_eq_append_getElem hjL
        obtain ⟨x, hx⟩ : ∃ x, (nxt M R G i)[j] = x := ⟨_, rfl⟩
        rw [hx] at dd hxn htk hmem
        have HFM : Hid (((nxt M R G i).take (j + 1)).flatMap (zax M R G) = ((nxt M R G i).take j).flatMap (zax M R G) ++ zax M R G x) := by
         rw [htk, List.flatMap_append, List.flatMap_singleton]; exact rfl
        have hd0 : wr.cell? ⟨b, oo + j, none⟩ = some (.int .i64 (x : Int)) := (HK.out.cell (p := ⟨b, oo + j, none⟩) hb).trans dd
        have hRx := HR.out.kept HKW.out
        have ri := hRx.is_in hxn
        obtain ⟨qe, hqe⟩ : ∃ q, isS M x = q := ⟨_, rfl⟩
        rw [hqe] at ri
        have HQE : Hid (isS M x = qe) := hqe
        have HIX : Hid (Calls Tryz.prog 22 #[.pointer (some ⟨p, 0, none⟩), .int .i64 (x : Int)] wr (Lst wr (zbc M R G x))) := HIH.out x hmem wr hRx
        have HFX : Hid ((zbc M R G x).length <= 100000) := Nat.le_trans (HR.out.inv.flat_len hxn) HR.out.le
        clear dd hx hxn htk hqe hRx hmem hb
        cases qe with
        | true =>
         have hgx : zax M R G x = zbc M R G x := by unfold zax; rw [HQE.out, if_pos rfl]
         have HGX : Hid (zax M R G x = zbc M R G x) := hgx
         clear hgx
         go_upto_region 16 with (go_at_call 82; refine ri.mono ?_; rintro e1 w3 ⟨rfl, hw3⟩; replace hw3 := hw3.symm; subst hw3)
         have rx := HIX.out
         clear ri
         go_wp2_with fail
         refine rx.mono ?_
         rintro e V ⟨fa, fc, rfl, hFO, hkV⟩
         obtain ⟨fl, hfl⟩ : ∃ fl, (zbc M R G x).length = fl := ⟨_, rfl⟩
         have OV : Zac (fun k => k < wo.heap.size) V 3 1 ao n c (ivs (((nxt M R G i).take j).flatMap (zax M R G))) := HO.out.to (fun g hg => (HO.out.out hg).1) (fun g hg => hkV.block g (HO.out.out hg).2)
         have KV : Kept (fun k => k < wo.heap.size) wo V := kt HK.out hkV
         obtain ⟨ao', c', U, hrun, hO', hK'⟩ := zcf (ac := fc) OV hfl (hFO.intsAt (F := fun _ => True) fun _ _ => trivial) (fun k h => ltl h KV.size) (by omega) (by have := HFX.out; omega)
         have HOU : Hid ((((nxt M R G i).take (j + 1)).flatMap (zax M R G)).length = n + fl /\ Zac (fun k => k < wo.heap.size) U 3 1 ao' (n + fl) c' (ivs (((nxt M R G i).take (j + 1)).flatMap (zax M R G))) /\ Kept (fun k => k < wo.heap.size) wo U) := by
          rw [HFM.out, HGX.out]
          exact ⟨by rw [List.length_append, HLN.out, hfl], hO', KV.trans hK'⟩
         rw [hfl]
         clear rx hFO hkV OV KV hO' hK' hfl hd0
         go_wp2_with (at_builtin; refine zae (w' := U) rfl (.tmp 60) (.tmp 66) 33 33 rfl _ _ (.slice ao' (n + fl) c') rfl rfl hrun ?_)
         go_roundg (nl - (j + 1))
         case rel => exact ⟨j + 1, n + fl, c', ao', rfl, by omega, by go_num, rfl, HOU.out.1, HOU.out.2.1, HOU.out.2.2⟩
         case measure => omega
        | false =>
         have hgx : zax M R G x = [x] := by unfold zax; rw [HQE.out, if_neg (by simp)]
         obtain ⟨ao', c', U, hrun, hO', hK'⟩ := zkx HO.out (fun k h => ltl h HK.out.size) (by omega) (x : Int)
         have HOU : Hid ((((nxt M R G i).take (j + 1)).flatMap (zax M R G)).length = n + 1 /\ Zac (fun k => k < wo.heap.size) U 3 1 ao' (n + 1) c' (ivs (((nxt M R G i).take (j + 1)).flatMap (zax M R G))) /\ Kept (fun k => k < wo.heap.size) wo U) := by
          rw [HFM.out, hgx]
          exact ⟨by rw [List.length_append, HLN.out]; rfl, by rw [zcy]; exact hO', HK.out.trans hK'⟩
         clear hO' hK' hgx
         go_upto_region 17 with (go_at_call 82; refine ri.mono ?_; rintro e1 w3 ⟨rfl, hw3⟩; replace hw3 := hw3.symm; subst hw3)
         clear ri
         go_wp2_with (at_builtin; refine zae (w' := U) rfl (.tmp 68) (.tmp 73) 33 33 rfl _ _ (.slice ao' (n + 1) c') rfl rfl hrun ?_)
         go_roundg (nl - (j + 1))
         case rel => exact ⟨j + 1, n + 1, c', ao', rfl, by omega, by go_num, rfl, HOU.out.1, HOU.out.2.1, HOU.out.2.2⟩
         case measure => omega
       ·have hjn : j = nl := by omega
        have HE : Hid (((nxt M R G i).take j).flatMap (zax M R G) = zbc M R G i) := by
         have h2 : ((nxt M R G i).take j).flatMap (zax M R G) = zbc M R G i := by rw [HEQ.out, List.take_of_length_le (by rw [HNL.out]; omega)]
         exact h2
        clear hjn
        go_wp2
        go_ret
        refine ⟨ao, c, by rw [<- HE.out, HLN.out]; rfl, by rw [<- HE.out, HLN.out]; exact Zac.to HO.out (fun q hq hh => (HO.out.out hq).1 (ltl hh HKL.out.size)) (fun _ _ => rfl), HKW.out⟩
   ·have hal0 : ((al : Int) == 0) = false := by
     rw [beq_eq_false_iff_ne]
     intro e
     have : al = 0 := by omega
     rw [this] at hal
     exact hA0 (List.eq_nil_of_length_eq_zero hal)
    have hnl0 : (nxt M R G i).length = al := by rw [HNXT.out, if_neg hA0]; exact hal
    have hna : nxt M R G i = A := by rw [HNXT.out, if_neg hA0]
    have HNA : Hid (nxt M R G i = A) := hna
    have HAL : Hid (A.length = al) := hal
    clear hA0 hna hal hm
    go_enter Tryz.func22, Tryz.ntmps22
    go_upto_region 4 with (go_at_call 82; refine r1.mono ?_; rintro e1 w3 ⟨rfl, hw3⟩; replace hw3 := hw3.symm; subst hw3)
    clear r1
    go_upto_region 5 with (go_at_call 20; refine r2.mono ?_; rintro e w1 ⟨la, lc, rfl, hLO, hk1⟩)
    rw [HAL.out] at hLO ⊢
    have HL : Hid (Zac (fun k => k < w.heap.size) w1 3 1 la al lc (ivs (nxt M R G i))) := by rw [HNA.out]; exact hLO
    have HKL : Hid (Kept (fun k => k < w.heap.size) w w1) := hk1
    clear r2 hLO hk1
    have HNL : Hid ((nxt M R G i).length = al) := hnl0
    have HRW : Hid (Zad (fun g => g < w1.heap.size) w1 la (nxt M R G i)) := HL.out.intsAt fun g hg => (HL.out.out hg).2
    clear hnl0 HL
    go_upto_region 13 with fail
    go_loopg [5, 9] al (fun gh v5 v9 wr => ∃ (j n c : Nat) (ao : Option Addr), gh = al - j /\ j <= al /\ v9 = .int .i64 (j : Int) /\ v5 = .slice ao n c /\ (((nxt M R G i).take j).flatMap (zax M R G)).length = n /\ Zac (fun k => k < w1.heap.size) wr 3 1 ao n c (ivs (((nxt M R G i).take j).flatMap (zax M R G))) /\ Kept (fun k => k < w1.heap.size) w1 wr)
    case atStart => exact ⟨0, 0, 0, none, rfl, Nat.zero_le _, rfl, rfl, rfl, Zac.nil _ _ _ _, Kept.refl _ _⟩
    case round =>
     obtain ⟨j, n, c, ao, hgj, hj, rfl, rfl, hln, hO, hK⟩ := hrel
     have hn9 : n <= 100000 := by
      rw [<- hln]
      refine Nat.le_trans ?_ HFL.out
      rw [HEQ.out]
      conv => rhs; rw [<- List.take_append_drop j (nxt M R G i), List.flatMap_append, List.length_append]
      omega
     have HO : Hid (Zac (fun k => k < w1.heap.size) wr 3 1 ao n c (ivs (((nxt M R G i).take j).flatMap (zax M R G)))) := hO
     have HK : Hid (Kept (fun k => k < w1.heap.size) w1 wr) := hK
     have HLN : Hid ((((nxt M R G i).take j).flatMap (zax M R G)).length = n) := hln
     have HKW : Hid (Kept (fun k => k < w.heap.size) w wr) := kt HKL.out hK
     clear hO hK hln
     by_cases hlt : j < al
     ·have hjL : j < (nxt M R G i).length := by rw [HNL.out]; exact hlt
      obtain ⟨b, oo, rfl, hb, dd⟩ := HRW.out j hjL
      have hmem : (nxt M R G i)[j] ∈ nxt M R G i := List.getElem_mem hjL
      have hxn := HNX.out _ hmem
      have htk : (nxt M R G i).take (j + 1) = (nxt M R G i).take j ++ [(nxt M R G i)[j]] := List.take_succ_eq_append_getElem hjL
      obtain ⟨x, hx⟩ : ∃ x, (nxt M R G i)[j] = x := ⟨_, rfl⟩
      rw [hx] at dd hxn htk hmem
      have HFM : Hid (((nxt M R G i).take (j + 1)).flatMap (zax M R G) = ((nxt M R G i).take j).flatMap (zax M R G) ++ zax M R G x) := by
       rw [htk, List.flatMap_append, List.flatMap_singleton]; exact rfl
      have hd0 : wr.cell? ⟨b, oo + j, none⟩ = some (.int .i64 (x : Int)) := (HK.out.cell (p := ⟨b, oo + j, none⟩) hb).trans dd
      have hRx := HR.out.kept HKW.out
      have ri := hRx.is_in hxn
      obtain ⟨qe, hqe⟩ : ∃ q, isS M x = q := ⟨_, rfl⟩
      rw [hqe] at ri
      have HQE : Hid (isS M x = qe) := hqe
      have HIX : Hid (Calls Tryz.prog 22 #[.pointer (some ⟨p, 0, none⟩), .int .i64 (x : Int)] wr (Lst wr (zbc M R G x))) := HIH.out x hmem wr hRx
      have HFX : Hid ((zbc M R G x).length <= 100000) := Nat.le_trans (HR.out.inv.flat_len hxn) HR.out.le
      clear dd hx hxn htk hqe hRx hmem hb
      cases qe with
      | true =>
       have hgx : zax M R G x = zbc M R G x := by unfold zax; rw [HQE.out, if_pos rfl]
       have HGX : Hid (zax M R G x = zbc M R G x) := hgx
       clear hgx
       go_upto_region 16 with (go_at_call 82; refine ri.mono ?_; rintro e1 w3 ⟨rfl, hw3⟩; replace hw3 := hw3.symm; subst hw3)
       have rx := HIX.out
       clear ri
       go_wp2_with fail
       refine rx.mono ?_
       rintro e V ⟨fa, fc, rfl, hFO, hkV⟩
       obtain ⟨fl, hfl⟩ : ∃ fl, (zbc M R G x).length = fl := ⟨_, rfl⟩
       have OV : Zac (fun k => k < w1.heap.size) V 3 1 ao n c (ivs (((nxt M R G i).take j).flatMap (zax M R G))) := HO.out.to (fun g hg => (HO.out.out hg).1) (fun g hg => hkV.block g (HO.out.out hg).2)
       have KV : Kept (fun k => k < w1.heap.size) w1 V := kt HK.out hkV
       obtain ⟨ao', c', U, hrun, hO', hK'⟩ := zcf (ac := fc) OV hfl (hFO.intsAt (F := fun _ => True) fun _ _ => trivial) (fun k h => ltl h KV.size) (by omega) (by have := HFX.out; omega)
       have HOU : Hid ((((nxt M R G i).take (j + 1)).flatMap (zax M R G)).length = n + fl /\ Zac (fun k => k < w1.heap.size) U 3 1 ao' (n + fl) c' (ivs (((nxt M R G i).take (j + 1)).flatMap (zax M R G))) /\ Kept (fun k => k < w1.heap.size) w1 U) := by
        rw [HFM.out, HGX.out]
        exact ⟨by rw [List.length_append, HLN.out, hfl], hO', KV.trans hK'⟩
       rw [hfl]
       clear rx hFO hkV OV KV hO' hK' hfl hd0
       go_wp2_with (at_builtin; refine zae (w' := U) rfl (.tmp 60) (.tmp 66) 33 33 rfl _ _ (.slice ao' (n + fl) c') rfl rfl hrun ?_)
       go_roundg (al - (j + 1))
       case rel => exact ⟨j + 1, n + fl, c', ao', rfl, by omega, by go_num, rfl, HOU.out.1, HOU.out.2.1, HOU.out.2.2⟩
       case measure => omega
      | false =>
       have hgx : zax M R G x = [x] := by unfold zax; rw [HQE.out, if_neg (by simp)]
       obtain ⟨ao', c', U, hrun, hO', hK'⟩ := zkx HO.out (fun k h => ltl h HK.out.size) (by omega) (x : Int)
       have HOU : Hid ((((nxt M R G i).take (j + 1)).flatMap (zax M R G)).length = n + 1 /\ Zac (fun k => k < w1.heap.size) U 3 1 ao' (n + 1) c' (ivs (((nxt M R G i).take (j + 1)).flatMap (zax M R G))) /\ Kept (fun k => k < w1.heap.size) w1 U) := by
        rw [HFM.out, hgx]
        exact ⟨by rw [List.length_append, HLN.out]; rfl, by rw [zcy]; exact hO', HK.out.trans hK'⟩
       clear hO' hK' hgx
       go_upto_region 17 with (go_at_call 82; refine ri.mono ?_; rintro e1 w3 ⟨rfl, hw3⟩; replace hw3 := hw3.symm; subst hw3)
       clear ri
       go_wp2_with (at_builtin; refine zae (w' := U) rfl (.tmp 68) (.tmp 73) 33 33 rfl _ _ (.slice ao' (n + 1) c') rfl rfl hrun ?_)
       go_roundg (al - (j + 1))
       case rel => exact ⟨j + 1, n + 1, c', ao', rfl, by omega, by go_num, rfl, HOU.out.1, HOU.out.2.1, HOU.out.2.2⟩
       case measure => omega
     ·have hjn : j = al := by omega
      have HE : Hid (((nxt M R G i).take j).flatMap (zax M R G) = zbc M R G i) := by
       have h2 : ((nxt M R G i).take j).flatMap (zax M R G) = zbc M R G i := by rw [HEQ.out, List.take_of_length_le (by rw [HNL.out]; omega)]
       exact h2
      clear hjn
      go_wp2
      go_ret
      refine ⟨ao, c, by rw [<- HE.out, HLN.out]; rfl, by rw [<- HE.out, HLN.out]; exact Zac.to HO.out (fun q hq hh => (HO.out.out hq).1 (ltl hh HKL.out.size)) (fun _ _ => rfl), HKW.out⟩
end
end Go.Proofs.YtfeinppedejlpaaGreat
