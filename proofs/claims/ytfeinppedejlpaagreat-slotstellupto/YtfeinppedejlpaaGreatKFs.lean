/-
  The document's own slots: Slots.
-/
import Derived.Test.YtfeinppedejlpaaGreatKE01
import Derived.Test.YtfeinppedejlpaaGreatKR3
import Derived.Test.YtfeinppedejlpaaGreatKC02
import Derived.Deep.MidRow
namespace Go.Proofs.YtfeinppedejlpaaGreat
set_option maxHeartbeats 8000000
set_option maxRecDepth 100000
open Go.RowKit Go.Sort
set_option linter.unusedVariables false
structure Rr (K : Nat -> Prop) (w : World) (p : Nat) (M : Dm) (R G : Nat -> List Nat) (rk : Nat -> Nat) : Prop where
 r : RX K TT w p M R G
 inv : Inv M R G rk
 le : M.n <= 100000
section
variable {K : Nat -> Prop} {w : World} {p : Nat} {M : Dm} {R G : Nat -> List Nat} {rk : Nat -> Nat}
theorem Rr.kept {w' : World} (h : Rr K w p M R G rk) (hk : Kept (fun k => k < w.heap.size) w w') : Rr K w' p M R G rk := ⟨h.r.kept hk, h.inv, h.le⟩
end
section
variable {P : Program} {ops : Array Oper} {Q : Exit -> Act -> World -> Prop} {md : Region.Mode} {S : World -> Prop} {fuel : Nat} {listed : Array Bool} {a : Act} {w : World}
theorem opZ (i : Nat) {o : Oper} (hi : ops[i]? = some o) (hr : Region.ready md ops listed = [i]) (hw : Region.wanted o (yielded ops a.tmps) = true)
  (h : ∀ K' : Act -> World -> Prop, Hid (∀ a w, S w -> (S w -> wpAnyH P md ops Q S fuel (listed.setIfInBounds i true) a w) -> K' a w) -> Oper.wp P o a w K' Q) : wpAnyH P md ops Q S (fuel + 1) listed a w := by
 refine wpAnyH_ready hr (by simp) (AllReadyH.cons hi (fun Kx hK => ?_) AllReadyH.nil)
 rw [if_pos hw]
 exact h Kx hK.out
theorem zh6 {o : Oper} (ty : TypeId) (x : Operand) (ho : o.op = .load ty x) (b off : Nat) (hx : a.eval x = .pointer (some ⟨b, off, none⟩)) (cs : List Value) (d : TypeDesc) {Y : World} (hc : Y.rangeAt b off cs) (hu : P.underlying ty = some d) (hd : d.isRow = true) (hi : (P.info? ty).map (·.size) = some cs.length) : (execOp a.eval o).run P Y = .ok (.value (.agg cs.toArray)) Y := by
 unfold execOp
 simp only [ho, hx, Instr.loadAt, Instr.sureAddr, Sem.run_bind, Sem.run_pure, Result.andThen_ok, run_loadVar_mid Y b off ty cs d hc hu hd hi]
end
theorem RX.rowAt {K : Nat -> Prop} {w : World} {p : Nat} {M : Dm} {R G : Nat -> List Nat} (h : RX K TT w p M R G) : ∃ g nc, ∀ i, i < M.n -> ∃ aa ac ka kc, ∀ Y, Kept (fun k => k < w.heap.size) w Y -> Y.cell? ⟨p, 1, none⟩ = some (.slice (some ⟨g, 0, none⟩) M.n nc) /\ Y.rangeAt g (i * 14) (zbd (M.nd i) (M.pl i).up aa ac ka (R i).length kc) /\ Zal (fun k => k < Y.heap.size) Y aa (M.nd i).attrs := by
 obtain ⟨A, h⟩ := h
 by_cases c : 0 < M.n
 ·obtain ⟨g, hg, -, -, -⟩ := h.nat c
  refine ⟨g, A.nc, fun i hi => ⟨A.aa i, A.ac i, A.ka i, A.kc i, fun Y hY => ?_⟩⟩
  have h' := h.kept hY
  exact ⟨by rw [h'.c1, hg], fun f u hf => h'.cell hg hi f u hf, (h'.ats i hi).to (fun q hq => hq.1) (fun _ _ => rfl)⟩
 ·exact ⟨0, 0, fun i hi => absurd hi (by omega)⟩
section
variable {K : Nat -> Prop} {w : World} {p : Nat} {M : Dm} {R G : Nat -> List Nat} {rk : Nat -> Nat}
theorem Rr.slots_in (h : Rr K w p M R G rk) {s : Nat} (hs : s < M.n) : Calls Tryz.prog 24 #[.pointer (some ⟨p, 0, none⟩), .int .i64 (s : Int)] w (Lst w ((tr M.n R s).filter fun k => za9 (M.nd k))) := by
 have rt := zl5 K p M R G rk w h.r h.inv h.le _ s (Nat.lt_succ_self _) hs w (Kept.refl _ _)
 have HLT : Hid (∀ x ∈ tr M.n R s, x < M.n) := fun x hx => zic h.inv.good.falls _ s hs x hx
 have hle := zjd h.inv.good.only hs
 obtain ⟨g, nc, hrow⟩ := h.r.rowAt
 have HROW : Hid (∀ i, i < M.n -> ∃ aa ac ka kc, ∀ Y, Kept (fun k => k < w.heap.size) w Y -> Y.cell? ⟨p, 1, none⟩ = some (.slice (some ⟨g, 0, none⟩) M.n nc) /\ Y.rangeAt g (i * 14) (zbd (M.nd i) (M.pl i).up aa ac ka (R i).length kc) /\ Zal (fun k => k < Y.heap.size) Y aa (M.nd i).attrs) := hrow
 obtain ⟨L, hL⟩ : ∃ L, tr M.n R s = L := ⟨_, rfl⟩
 have hn := h.le
 obtain ⟨m, hm⟩ : ∃ m, M.n = m := ⟨_, rfl⟩
 have HM : Hid (M.n = m) := hm
 rw [hL] at rt HLT hle ⊢
 rw [hm] at hle hn
 obtain ⟨ll, hll⟩ : ∃ ll, L.length = ll := ⟨_, rfl⟩
 have HLL : Hid (L.length = ll) := hll
 rw [hll] at hle
 clear h hs hrow hL hm
 go_enter Tryz.func24, Tryz.ntmps24
 go_upto_region 3 with (go_at_call 43; refine rt.mono ?_; rintro e w5 ⟨ta, tc, rfl, hTO, hk5⟩; rw [hll])
 have HRW : Hid (Zad (fun g => g < w5.heap.size) w5 ta L) := hTO.intsAt fun g hg => (hTO.out hg).2
 have HK5 : Hid (Kept (fun k => k < w.heap.size) w w5) := hk5
 clear rt hTO hk5 hll
 go_upto_region 4 with fail
 go_loopg [5, 7] ll (fun gh v5 v7 wr => ∃ (j n c : Nat) (ao : Option Addr), gh = ll - j /\ j <= ll /\ v7 = .int .i64 (j : Int) /\ v5 = .slice ao n c /\ ((L.take j).filter fun k => za9 (M.nd k)).length = n /\ Zac (fun k => k < w5.heap.size) wr 3 1 ao n c (ivs ((L.take j).filter fun k => za9 (M.nd k))) /\ Kept (fun k => k < w5.heap.size) w5 wr)
 case atStart => exact ⟨0, 0, 0, none, rfl, Nat.zero_le _, rfl, rfl, rfl, Zac.nil _ _ _ _, Kept.refl _ _⟩
 case round =>
  obtain ⟨j, n, c, ao, hgj, hj, rfl, rfl, hln, hO, hK⟩ := hrel
  have hn9 : n <= 100000 := by
   rw [<- hln]
   refine Nat.le_trans (List.length_filter_le _ _) ?_
   rw [List.length_take]
   omega
  have HO : Hid (Zac (fun k => k < w5.heap.size) wr 3 1 ao n c (ivs ((L.take j).filter fun k => za9 (M.nd k)))) := hO
  have HK : Hid (Kept (fun k => k < w5.heap.size) w5 wr) := hK
  have HLN : Hid (((L.take j).filter fun k => za9 (M.nd k)).length = n) := hln
  clear hO hK hln
  by_cases hlt : j < ll
  ·have hjL : j < L.length := by rw [HLL.out]; exact hlt
   obtain ⟨b, o, rfl, hb, dd⟩ := HRW.out j hjL
   have hxn := HLT.out L[j] (List.getElem_mem hjL)
   have htk : L.take (j + 1) = L.take j ++ [L[j]] := List.take_succ_eq_append_getElem hjL
   obtain ⟨x, hx⟩ : ∃ x, L[j] = x := ⟨_, rfl⟩
   rw [hx] at dd hxn htk
   have HTK : Hid (L.take (j + 1) = L.take j ++ [x]) := htk
   obtain ⟨aa, ac, ka, kc, hY⟩ := HROW.out x hxn
   obtain ⟨cx, hcx⟩ : ∃ cx, zbd (M.nd x) (M.pl x).up aa ac ka (R x).length kc = cx := ⟨_, rfl⟩
   have hcl : cx.length = 14 := by rw [<- hcx]; rfl
   rw [hcx] at hY
   have HDD : Hid (∀ Y, Kept (fun k => k < wr.heap.size) wr Y -> Y.cell? ⟨b, o + j, none⟩ = some (.int .i64 (x : Int))) := fun Y hY' => ((kt HK.out hY').cell (p := ⟨b, o + j, none⟩) hb).trans dd
   have HCC : Hid (∀ Y, Kept (fun k => k < wr.heap.size) wr Y -> Y.cell? ⟨p, 1, none⟩ = some (.slice (some ⟨g, 0, none⟩) m nc) /\ Y.rangeAt g (x * 14) cx) := fun Y hY' => by
    have hz := HK5.out.trans ((kt HK.out hY').mono fun k h => ltl h HK5.out.size)
    have := hY Y hz
    rw [HM.out] at this
    exact ⟨this.1, this.2.1⟩
   have hxm : x < m := by rw [<- HM.out]; exact hxn
   have HCX : Hid (zbd (M.nd x) (M.pl x).up aa ac ka (R x).length kc = cx) := hcx
   clear dd hx hxn htk hY hcx
   have HC1 : Hid (∀ Y, Kept (fun k => k < wr.heap.size) wr Y -> Y.cell? ⟨p, 1, none⟩ = some (.slice (some ⟨g, 0, none⟩) m nc)) := fun Y hY => (HCC.out Y hY).1
   have hsz : (Tryz.prog.info? 58).map (·.size) = some cx.length := by rw [hcl]; rfl
   obtain ⟨V0, hA⟩ : ∃ V0, (wr.alloc (.cells za2 58)).drew = V0 := ⟨_, rfl⟩
   obtain ⟨N, hN⟩ : ∃ N, wr.heap.size = N := ⟨_, rfl⟩
   have hBA : V0.heap[N]? = some (.cells za2 58 (0, 0)) := by rw [<- hA, <- hN]; exact heap_alloc_new wr _
   have hKA : Kept (fun k => k < wr.heap.size) wr V0 := by rw [<- hA]; exact ((Kept.refl _ wr).alloc (fun _ h => h) _).drew
   obtain ⟨V, hV⟩ : ∃ V, V0.setRow N cx.toArray = V := ⟨_, rfl⟩
   have hb6 : V.heap[N]? = some (.cells cx.toArray 58 (0, 0)) := by rw [<- hV]; exact setRow_heap _ _ _ _ _ _ hBA
   have hKV : Kept (fun k => k < wr.heap.size) wr V := by rw [<- hV]; exact zap hKA (by rw [hN]; exact Nat.lt_irrefl _) _
   have HA : Hid ((wr.alloc (.cells za2 58)).drew = V0) := hA
   have HN : Hid (wr.heap.size = N) := hN
   have HBA : Hid (V0.heap[N]? = some (.cells za2 58 (0, 0))) := hBA
   have HKA : Hid (Kept (fun k => k < wr.heap.size) wr V0) := hKA
   have HV : Hid (V0.setRow N cx.toArray = V) := hV
   have HKV : Hid (Kept (fun k => k < wr.heap.size) wr V) := hKV
   have HKW : Hid (Kept (fun k => k < w5.heap.size) w5 V) := kt HK.out hKV
   have HOV : Hid (Zac (fun k => k < w5.heap.size) V 3 1 ao n c (ivs ((L.take j).filter fun k => za9 (M.nd k)))) := HO.out.to (fun q hq => (HO.out.out hq).1) (fun q hq => hKV.block q (HO.out.out hq).2)
   have HDV : Hid (V.cell? ⟨b, o + j, none⟩ = some (.int .i64 (x : Int))) := HDD.out V hKV
   obtain ⟨kx, hkx⟩ : ∃ k, (M.nd x).kind = k := ⟨_, rfl⟩
   have HKX : Hid ((M.nd x).kind = kx) := hkx
   obtain ⟨nx, hnx⟩ : ∃ b, (⟨(M.nd x).name.toArray⟩ : ByteArray) = b := ⟨_, rfl⟩
   have HNX : Hid ((M.nd x).name = nx.toList) := by rw [<- hnx, ByteArray.toList_eq]; exact rfl
   have x0 : V.cell? ⟨N, 0, none⟩ = some (.int .u8 (kx : Int)) := by rw [zaa hb6, <- HCX.out, <- hkx]; rfl
   have x1 : V.cell? ⟨N, 1, none⟩ = some (.string nx) := by rw [zaa hb6, <- HCX.out, <- hnx]; rfl
   have h1c : cx.toArray.all (·.oneCell') = true := by
    rw [List.all_toArray, List.all_eq_true, <- HCX.out]
    exact zpc _ _ _ _ _ _ _
   clear hA hN hBA hKA hV hKV hb6 hkx hnx
   go_upto_region 6 with fail
   refine wp_region_held_drew (S := fun Y => Kept (fun k => k < wr.heap.size) wr Y) (by kernel_rfl) ((Kept.refl _ wr).drew) (fun hHeld => ?_)
   refine tkH 0 18 (.pointer (some ⟨p, 0, none⟩)) rfl rfl (by kernel_rfl) (by rfl) (by intro Y hY; go_simp; try with_reducible rfl) (fun _ _ _ h => h) hHeld ?_
   try simp only [Act.put, List.setIfInBounds_toArray, List.set_cons_zero, List.set_cons_succ]
   refine tkH 1 19 (.pointer (some ⟨p, 0, none⟩)) rfl rfl (by kernel_rfl) (by rfl) (by intro Y hY; go_simp; try with_reducible rfl) (fun _ _ _ h => h) hHeld ?_
   try simp only [Act.put, List.setIfInBounds_toArray, List.set_cons_zero, List.set_cons_succ]
   refine tkH 2 20 (.pointer (some ⟨p, 1, none⟩)) rfl rfl (by kernel_rfl) (by rfl) (by intro Y hY; go_simp; try with_reducible rfl) (fun _ _ _ h => h) hHeld ?_
   try simp only [Act.put, List.setIfInBounds_toArray, List.set_cons_zero, List.set_cons_succ]
   refine tkH 3 21 (.slice (some ⟨g, 0, none⟩) m nc) rfl rfl (by kernel_rfl) (by rfl) (by intro Y hY; have hc := HC1.out Y hY; go_simp; try with_reducible rfl) (fun _ _ _ h => h) hHeld ?_
   try simp only [Act.put, List.setIfInBounds_toArray, List.set_cons_zero, List.set_cons_succ]
   refine tkH 4 22 (.slice (some ⟨b, o, none⟩) ll tc) rfl rfl (by kernel_rfl) (by rfl) (by intro Y hY; go_simp; try with_reducible rfl) (fun _ _ _ h => h) hHeld ?_
   try simp only [Act.put, List.setIfInBounds_toArray, List.set_cons_zero, List.set_cons_succ]
   refine tkH 5 23 (.int .i64 (j : Int)) rfl rfl (by kernel_rfl) (by rfl) (by intro Y hY; go_simp; try with_reducible rfl) (fun _ _ _ h => h) hHeld ?_
   try simp only [Act.put, List.setIfInBounds_toArray, List.set_cons_zero, List.set_cons_succ]
   refine tkH 6 24 (.pointer (some ⟨b, o + j, none⟩)) rfl rfl (by kernel_rfl) (by rfl) (by intro Y hY; go_simp; try with_reducible rfl) (fun _ _ _ h => h) hHeld ?_
   try simp only [Act.put, List.setIfInBounds_toArray, List.set_cons_zero, List.set_cons_succ]
   refine tkH 7 25 (.int .i64 (x : Int)) rfl rfl (by kernel_rfl) (by rfl) (by intro Y hY; have hc := HDD.out Y hY; go_simp; try with_reducible rfl) (fun _ _ _ h => h) hHeld ?_
   try simp only [Act.put, List.setIfInBounds_toArray, List.set_cons_zero, List.set_cons_succ]
   refine tkH 8 26 (.pointer (some ⟨g, x * 14, none⟩)) rfl rfl (by kernel_rfl) (by rfl) (by intro Y hY; go_simp; try with_reducible rfl) (fun _ _ _ h => h) hHeld ?_
   try simp only [Act.put, List.setIfInBounds_toArray, List.set_cons_zero, List.set_cons_succ]
   refine tkH 9 27 (.agg cx.toArray) rfl rfl (by kernel_rfl) (by rfl) (by intro Y hY; exact zh6 58 _ rfl g (x * 14) rfl cx _ (HCC.out Y hY).2 Tryz.underlying58 rfl hsz) (fun _ _ _ h => h) hHeld ?_
   try simp only [Act.put, List.setIfInBounds_toArray, List.set_cons_zero, List.set_cons_succ]
   refine opZ 10 rfl (by kernel_rfl) (by rfl) (fun K' hK => ?_)
   unfold Oper.wp
   go_simp
   rw [HA.out, HN.out]
   refine hK.out _ _ HKA.out (fun hHeld => ?_)
   clear hK
   refine opZ 11 rfl (by kernel_rfl) (by rfl) (fun K' hK => ?_)
   refine wp_store_row 58 _ _ rfl N cx.toArray rfl rfl 58 _ HBA.out (by rw [List.size_toArray]; exact hsz) (by show 14 = cx.toArray.size; rw [List.size_toArray, hcl]) h1c ?_
   rw [HV.out]
   refine hK.out _ _ HKV.out (fun hHeld => ?_)
   clear hK
   refine wpAnyH_done (by kernel_rfl) ?_ _
   clear hHeld HA HV HKA HBA HDD HC1 HCC
   by_cases k1 : kx = 1
   ·subst k1
    obtain ⟨qs, hqs⟩ : ∃ q, (nx.toList == [115, 108, 111, 116]) = q := ⟨_, rfl⟩
    cases qs with
    | true =>
     have HSL : Hid (za9 (M.nd x) = true) := zbw.2 ⟨HKX.out, by rw [HNX.out]; simpa using hqs⟩
     have HFL : Hid ((L.take (j + 1)).filter (fun k => za9 (M.nd k)) = (L.take j).filter (fun k => za9 (M.nd k)) ++ [x]) := by
      rw [HTK.out, List.filter_append]
      congr 1
      simp [HSL.out]
     have dv : V.cell? ⟨b, o + j, none⟩ = some (.int .i64 (x : Int)) := HDV.out
     obtain ⟨Z, hZ⟩ : ∃ Z, V.alloc (.cells #[.int .i64 (x : Int)] 3) = Z := ⟨_, rfl⟩
     obtain ⟨NZ, hNZ⟩ : ∃ N, V.heap.size = N := ⟨_, rfl⟩
     have hbz : Z.heap[NZ]? = some (.cells #[.int .i64 (x : Int)] 3 (0, 0)) := by rw [<- hZ, <- hNZ]; exact heap_alloc_new V _
     have kZ : Kept (fun k => k < V.heap.size) V Z := by rw [<- hZ]; exact (Kept.refl _ V).alloc (fun _ h => h) _
     have hOZ : Zac (fun k => k < w5.heap.size) Z 3 1 ao n c (ivs ((L.take j).filter fun k => za9 (M.nd k))) := HOV.out.to (fun q hq => (HOV.out.out hq).1) (fun q hq => kZ.block q (HOV.out.out hq).2)
     have hIZ : Zad (fun _ => True) Z (some ⟨NZ, 0, none⟩) [x] := fun i hi => by
      have : i = 0 := by simpa using hi
      subst this
      exact ⟨NZ, 0, rfl, trivial, by rw [zaa hbz]; rfl⟩
     obtain ⟨ao', c', U, hrun, hO', hK'⟩ := zcf (ac := 1) hOZ rfl hIZ (fun k h => ltl h (Nat.le_trans HKW.out.size kZ.size)) (by omega) (by show 1 <= 100000000; decide)
     have HZ : Hid (V.alloc (.cells #[.int .i64 (x : Int)] 3) = Z) := hZ
     have HNZ : Hid (V.heap.size = NZ) := hNZ
     have HOU : Hid (Zac (fun k => k < w5.heap.size) U 3 1 ao' (n + 1) c' (ivs ((L.take (j + 1)).filter fun k => za9 (M.nd k))) /\ Kept (fun k => k < w5.heap.size) w5 U /\ ((L.take (j + 1)).filter fun k => za9 (M.nd k)).length = n + 1) := by
      rw [HFL.out]
      exact ⟨hO', (kt HKW.out kZ).trans hK', by rw [List.length_append, HLN.out]; rfl⟩
     have hrun' : (Builtin.append_ #[33, 33] 33 #[.slice ao n c, .slice (some ⟨NZ, 0, none⟩) 1 1]).run Tryz.prog Z = .ok (.slice ao' (n + 1) c') U := hrun
     clear hZ hNZ hbz kZ hOZ hIZ hrun hO' hK'
     go_upto_region 8 with fail
     go_wp2_with (at_builtin; rw [HZ.out, HNZ.out]; refine zae (w' := U) rfl (.tmp 36) (.tmp 41) 33 33 rfl _ _ (.slice ao' (n + 1) c') rfl rfl hrun' ?_)
     go_roundg (ll - (j + 1))
     case rel => exact ⟨j + 1, _, _, _, rfl, by omega, by go_num, rfl, HOU.out.2.2, HOU.out.1, HOU.out.2.1⟩
     case measure => omega
    | false =>
     have HFL : Hid ((L.take (j + 1)).filter (fun k => za9 (M.nd k)) = (L.take j).filter (fun k => za9 (M.nd k))) := by
      rw [HTK.out, List.filter_append, List.filter_cons_of_neg (by
       intro hh
       have := (zbw.1 hh).2
       rw [HNX.out] at this
       rw [this] at hqs
       simp at hqs), List.filter_nil, List.append_nil]
      exact rfl
     go_wp2
     go_roundg (ll - (j + 1))
     case rel => exact ⟨j + 1, _, _, _, rfl, by omega, by go_num, rfl, by rw [HFL.out]; exact HLN.out, by rw [HFL.out]; exact HOV.out, HKW.out⟩
     case measure => omega
   ·have e1 : ((kx : Int) == 1) = false := by simp; omega
    have HFL : Hid ((L.take (j + 1)).filter (fun k => za9 (M.nd k)) = (L.take j).filter (fun k => za9 (M.nd k))) := by
     rw [HTK.out, List.filter_append, List.filter_cons_of_neg (by
      intro hh
      have := (zbw.1 hh).1
      rw [HKX.out] at this
      exact k1 this), List.filter_nil, List.append_nil]
     exact rfl
    clear k1
    go_wp2
    go_roundg (ll - (j + 1))
    case rel => exact ⟨j + 1, _, _, _, rfl, by omega, by go_num, rfl, by rw [HFL.out]; exact HLN.out, by rw [HFL.out]; exact HOV.out, HKW.out⟩
    case measure => omega
  ·have hjn : ll = j := by omega
   subst hjn
   have hall : L.take ll = L := List.take_of_length_le (by rw [HLL.out]; exact Nat.le_refl _)
   rw [hall] at HO HLN
   go_wp2
   go_ret
   refine ⟨ao, c, by rw [HLN.out]; rfl, by rw [HLN.out]; exact Zac.to HO.out (fun q hq hh => (HO.out.out hq).1 (ltl hh HK5.out.size)) (fun _ _ => rfl), kt HK5.out HK.out⟩
end
end Go.Proofs.YtfeinppedejlpaaGreat
