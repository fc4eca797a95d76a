/-
 The document's own slots: Slots.; The document's own slots: Find.
-/
import Derived.Test.YtljnjdckhkglfaaGreatJ06
import Derived.Test.YtljnjdckhkglfaaGreatB06
import Derived.Test.YtljnjdckhkglfaaGreatB22
import Derived.Deep.MidRow
import Derived.BigQuiet
namespace Go.Proofs.YtljnjdckhkglfaaGreat
set_option linter.unusedVariables false
set_option maxRecDepth 100000
set_option maxHeartbeats 8000000
section
open Go.RowKit Go.Sort
section
variable {P : Program} {ops : Array Oper} {Q : Exit -> Act -> World -> Prop} {md : Region.Mode} {S : World -> Prop} {fuel : Nat} {listed : Array Bool} {a : Act} {w : World}
theorem opZ (i : Nat) {o : Oper} (hi : ops[i]? = some o) (hr : Region.ready md ops listed = [i]) (hw : Region.wanted o (yielded ops a.tmps) = true)
  (h : ∀ K' : Act -> World -> Prop, Hid (∀ a w, S w -> (S w -> wpAnyH P md ops Q S fuel (listed.setIfInBounds i true) a w) -> K' a w) -> Oper.wp P o a w K' Q) : wpAnyH P md ops Q S (fuel + 1) listed a w := by
 refine wpAnyH_ready hr (by simp) (AllReadyH.cons hi (fun Kx hK => ?_) AllReadyH.nil)
 rw [if_pos hw]
 exact h Kx hK.out
theorem mid_run {o : Oper} (ty : TypeId) (x : Operand) (ho : o.op = .load ty x) (b off : Nat) (hx : a.eval x = .pointer (some ⟨b, off, none⟩)) (cs : List Value) (d : TypeDesc) {Y : World} (hc : Y.rangeAt b off cs) (hu : P.underlying ty = some d) (hd : d.isRow = true) (hi : (P.info? ty).map (·.size) = some cs.length) : (execOp a.eval o).run P Y = .ok (.value (.agg cs.toArray)) Y := by
 unfold execOp
 simp only [ho, hx, Instr.loadAt, Instr.sureAddr, Sem.run_bind, Sem.run_pure, Result.andThen_ok, run_loadVar_mid Y b off ty cs d hc hu hd hi]
end
theorem RX.rowAt {K : Nat -> Prop} {w : World} {p : Nat} {M : Dm} {R G : Nat -> List Nat} (h : RX K w p M R G) : ∃ g nc, ∀ i, i < M.n -> ∃ aa ac ka kc, ∀ Y, Kept (fun k => k < w.heap.size) w Y -> Y.cell? ⟨p, 1, none⟩ = some (.slice (some ⟨g, 0, none⟩) M.n nc) /\ Y.rangeAt g (i * 14) (rnCells (M.nd i) (M.pl i).up aa ac ka (R i).length kc) /\ AtsAt (fun k => k < Y.heap.size) Y aa (M.nd i).attrs := by
 obtain ⟨A, h⟩ := h
 by_cases c : 0 < M.n
 ·obtain ⟨g, hg, -, -, -⟩ := h.nat c
  refine ⟨g, A.nc, fun i hi => ⟨A.aa i, A.ac i, A.ka i, A.kc i, fun Y hY => ?_⟩⟩
  have h' := h.kept hY
  exact ⟨by rw [h'.c1, hg], fun f u hf => h'.cell hg hi f u hf, (h'.ats i hi).to (fun q hq => hq.1) (fun _ _ => rfl)⟩
 ·exact ⟨0, 0, fun i hi => absurd hi (by omega)⟩
section
variable {K : Nat -> Prop} {w : World} {p : Nat} {M : Dm} {R G : Nat -> List Nat} {rk : Nat -> Nat}
theorem Rr.slots_in (h : Rr K w p M R G rk) {s : Nat} (hs : s < M.n) : Calls Tryz.prog 28 #[.pointer (some ⟨p, 0, none⟩), .int .i64 (s : Int)] w (Lst w ((tr M.n R s).filter fun k => isSl (M.nd k))) := by
 have rt := pTree_in K p M R G rk w h.r h.inv h.le _ s (Nat.lt_succ_self _) hs w (Kept.refl _ _)
 have HLT : Hid (∀ x ∈ tr M.n R s, x < M.n) := fun x hx => tr_lt h.inv.good.falls _ s hs x hx
 have hle := tr_len h.inv.good.only hs
 obtain ⟨g, nc, hrow⟩ := h.r.rowAt
 have HROW : Hid (∀ i, i < M.n -> ∃ aa ac ka kc, ∀ Y, Kept (fun k => k < w.heap.size) w Y -> Y.cell? ⟨p, 1, none⟩ = some (.slice (some ⟨g, 0, none⟩) M.n nc) /\ Y.rangeAt g (i * 14) (rnCells (M.nd i) (M.pl i).up aa ac ka (R i).length kc) /\ AtsAt (fun k => k < Y.heap.size) Y aa (M.nd i).attrs) := hrow
 obtain ⟨L, hL⟩ : ∃ L, tr M.n R s = L := ⟨_, rfl⟩
 have hn := h.le
 obtain ⟨m, hm⟩ : ∃ m, M.n = m := ⟨_, rfl⟩
 have HM : Hid (M.n = m) := hm
 rw [hL] at rt HLT hle ⊢
 rw [hm] at hle hn
 obtain ⟨ll, hll⟩ : ∃ ll, L.length = ll := ⟨_, rfl⟩
 have HLL : Hid (L.length = ll) := hll
 rw [hll] at hle
 clear h hs hrow hL hm
 go_enter Tryz.func28, Tryz.ntmps28
 go_upto_region 3 with (go_at_call 30; refine rt.mono ?_; rintro e w5 ⟨ta, tc, rfl, hTO, hk5⟩; rw [hll])
 have HRW : Hid (IntsAt (fun g => g < w5.heap.size) w5 ta L) := hTO.intsAt fun g hg => (hTO.out hg).2
 have HK5 : Hid (Kept (fun k => k < w.heap.size) w w5) := hk5
 clear rt hTO hk5 hll
 go_upto_region 4 with fail
 go_loopg [5, 7] ll (fun gh v5 v7 wr => ∃ (j n c : Nat) (ao : Option Addr), gh = ll - j /\ j <= ll /\ v7 = .int .i64 (j : Int) /\ v5 = .slice ao n c /\ ((L.take j).filter fun k => isSl (M.nd k)).length = n /\ OwnZ (fun k => k < w5.heap.size) wr 3 1 ao n c (ivs ((L.take j).filter fun k => isSl (M.nd k))) /\ Kept (fun k => k < w5.heap.size) w5 wr)
 case atStart => exact ⟨0, 0, 0, none, rfl, Nat.zero_le _, rfl, rfl, rfl, OwnZ.nil _ _ _ _, Kept.refl _ _⟩
 case round =>
  obtain ⟨j, n, c, ao, hgj, hj, rfl, rfl, hln, hO, hK⟩ := hrel
  have hn9 : n <= 100000 := by
   rw [<- hln]
   refine Nat.le_trans (List.length_filter_le _ _) ?_
   rw [List.length_take]
   omega
  have HO : Hid (OwnZ (fun k => k < w5.heap.size) wr 3 1 ao n c (ivs ((L.take j).filter fun k => isSl (M.nd k)))) := hO
  have HK : Hid (Kept (fun k => k < w5.heap.size) w5 wr) := hK
  have HLN : Hid (((L.take j).filter fun k => isSl (M.nd k)).length = n) := hln
  clear hO hK hln
  by_cases hlt : j < ll
  ·have hjL : j < L.length := by rw [HLL.out]; exact hlt
   obtain ⟨b, o, rfl, hb, dd⟩ := HRW.out j hjL
   have hxn := HLT.out L[j] (List.getElem_mem hjL)
   have htk : L.take (j + 1) = L.take j ++ [L[j]] := List.take_succ_eq_append_getElem hjL
   obtain ⟨x, hx⟩ : ∃ x, L[j] = x := ⟨_, rfl⟩
   rw [hx] at dd hxn htk
   have HTK : Hid (L.take (j + 1) = L.take j ++ [x]) := htk
   obtain ⟨aa, ac, ka, kc, hY⟩ := HROW.out x hxn
   obtain ⟨cx, hcx⟩ : ∃ cx, rnCells (M.nd x) (M.pl x).up aa ac ka (R x).length kc = cx := ⟨_, rfl⟩
   have hcl : cx.length = 14 := by rw [<- hcx]; rfl
   rw [hcx] at hY
   have HDD : Hid (∀ Y, Kept (fun k => k < wr.heap.size) wr Y -> Y.cell? ⟨b, o + j, none⟩ = some (.int .i64 (x : Int))) := fun Y hY' => ((HK.out.trans (hY'.mono fun k h => Nat.lt_of_lt_of_le h HK.out.size)).cell (p := ⟨b, o + j, none⟩) hb).trans dd
   have HCC : Hid (∀ Y, Kept (fun k => k < wr.heap.size) wr Y -> Y.cell? ⟨p, 1, none⟩ = some (.slice (some ⟨g, 0, none⟩) m nc) /\ Y.rangeAt g (x * 14) cx) := fun Y hY' => by
    have hz := HK5.out.trans ((HK.out.trans (hY'.mono fun k h => Nat.lt_of_lt_of_le h HK.out.size)).mono fun k h => Nat.lt_of_lt_of_le h HK5.out.size)
    have := hY Y hz
    rw [HM.out] at this
    exact ⟨this.1, this.2.1⟩
   have hxm : x < m := by rw [<- HM.out]; exact hxn
   have HCX : Hid (rnCells (M.nd x) (M.pl x).up aa ac ka (R x).length kc = cx) := hcx
   clear dd hx hxn htk hY hcx
   have HC1 : Hid (∀ Y, Kept (fun k => k < wr.heap.size) wr Y -> Y.cell? ⟨p, 1, none⟩ = some (.slice (some ⟨g, 0, none⟩) m nc)) := fun Y hY => (HCC.out Y hY).1
   have hsz : (Tryz.prog.info? 41).map (·.size) = some cx.length := by rw [hcl]; rfl
   obtain ⟨V0, hA⟩ : ∃ V0, (wr.alloc (.cells zero14 41)).drew = V0 := ⟨_, rfl⟩
   obtain ⟨N, hN⟩ : ∃ N, wr.heap.size = N := ⟨_, rfl⟩
   have hBA : V0.heap[N]? = some (.cells zero14 41 (0, 0)) := by rw [<- hA, <- hN]; exact heap_alloc_new wr _
   have hKA : Kept (fun k => k < wr.heap.size) wr V0 := by rw [<- hA]; exact ((Kept.refl _ wr).alloc (fun _ h => h) _).drew
   obtain ⟨V, hV⟩ : ∃ V, V0.setRow N cx.toArray = V := ⟨_, rfl⟩
   have hb6 : V.heap[N]? = some (.cells cx.toArray 41 (0, 0)) := by rw [<- hV]; exact setRow_heap _ _ _ _ _ _ hBA
   have hKV : Kept (fun k => k < wr.heap.size) wr V := by rw [<- hV]; exact kept_setRow hKA (by rw [hN]; exact Nat.lt_irrefl _) _
   have HA : Hid ((wr.alloc (.cells zero14 41)).drew = V0) := hA
   have HN : Hid (wr.heap.size = N) := hN
   have HBA : Hid (V0.heap[N]? = some (.cells zero14 41 (0, 0))) := hBA
   have HKA : Hid (Kept (fun k => k < wr.heap.size) wr V0) := hKA
   have HV : Hid (V0.setRow N cx.toArray = V) := hV
   have HKV : Hid (Kept (fun k => k < wr.heap.size) wr V) := hKV
   have HKW : Hid (Kept (fun k => k < w5.heap.size) w5 V) := HK.out.trans (hKV.mono fun k h => Nat.lt_of_lt_of_le h HK.out.size)
   have HOV : Hid (OwnZ (fun k => k < w5.heap.size) V 3 1 ao n c (ivs ((L.take j).filter fun k => isSl (M.nd k)))) := HO.out.to (fun q hq => (HO.out.out hq).1) (fun q hq => hKV.block q (HO.out.out hq).2)
   have HDV : Hid (V.cell? ⟨b, o + j, none⟩ = some (.int .i64 (x : Int))) := HDD.out V hKV
   obtain ⟨kx, hkx⟩ : ∃ k, (M.nd x).kind = k := ⟨_, rfl⟩
   have HKX : Hid ((M.nd x).kind = kx) := hkx
   obtain ⟨nx, hnx⟩ : ∃ b, (⟨(M.nd x).name.toArray⟩ : ByteArray) = b := ⟨_, rfl⟩
   have HNX : Hid ((M.nd x).name = nx.toList) := by rw [<- hnx, ByteArray.toList_eq]; exact rfl
   have x0 : V.cell? ⟨N, 0, none⟩ = some (.int .u8 (kx : Int)) := by rw [cell_block hb6, <- HCX.out, <- hkx]; rfl
   have x1 : V.cell? ⟨N, 1, none⟩ = some (.string nx) := by rw [cell_block hb6, <- HCX.out, <- hnx]; rfl
   have h1c : cx.toArray.all (·.oneCell') = true := by
    rw [List.all_toArray, List.all_eq_true, <- HCX.out]
    exact rn_one _ _ _ _ _ _ _
   clear hA hN hBA hKA hV hKV hb6 hkx hnx
   go_upto_region 6 with fail
   refine wp_region_held_drew (S := fun Y => Kept (fun k => k < wr.heap.size) wr Y) (by kernel_rfl) ((Kept.refl _ wr).drew) (fun hHeld => ?_)
   refine tkH 0 18 (.pointer (some ⟨p, 0, none⟩)) rfl rfl (by kernel_rfl) (by rfl) (by intro Y hY; go_simp; try with_reducible rfl) (fun _ _ _ h => h) hHeld ?_
   try simp only [Act.put, sA, s0, s1]
   refine tkH 1 19 (.pointer (some ⟨p, 0, none⟩)) rfl rfl (by kernel_rfl) (by rfl) (by intro Y hY; go_simp; try with_reducible rfl) (fun _ _ _ h => h) hHeld ?_
   try simp only [Act.put, sA, s0, s1]
   refine tkH 2 20 (.pointer (some ⟨p, 1, none⟩)) rfl rfl (by kernel_rfl) (by rfl) (by intro Y hY; go_simp; try with_reducible rfl) (fun _ _ _ h => h) hHeld ?_
   try simp only [Act.put, sA, s0, s1]
   refine tkH 3 21 (.slice (some ⟨g, 0, none⟩) m nc) rfl rfl (by kernel_rfl) (by rfl) (by intro Y hY; have hc := HC1.out Y hY; go_simp; try with_reducible rfl) (fun _ _ _ h => h) hHeld ?_
   try simp only [Act.put, sA, s0, s1]
   refine tkH 4 22 (.slice (some ⟨b, o, none⟩) ll tc) rfl rfl (by kernel_rfl) (by rfl) (by intro Y hY; go_simp; try with_reducible rfl) (fun _ _ _ h => h) hHeld ?_
   try simp only [Act.put, sA, s0, s1]
   refine tkH 5 23 (.int .i64 (j : Int)) rfl rfl (by kernel_rfl) (by rfl) (by intro Y hY; go_simp; try with_reducible rfl) (fun _ _ _ h => h) hHeld ?_
   try simp only [Act.put, sA, s0, s1]
   refine tkH 6 24 (.pointer (some ⟨b, o + j, none⟩)) rfl rfl (by kernel_rfl) (by rfl) (by intro Y hY; go_simp; try with_reducible rfl) (fun _ _ _ h => h) hHeld ?_
   try simp only [Act.put, sA, s0, s1]
   refine tkH 7 25 (.int .i64 (x : Int)) rfl rfl (by kernel_rfl) (by rfl) (by intro Y hY; have hc := HDD.out Y hY; go_simp; try with_reducible rfl) (fun _ _ _ h => h) hHeld ?_
   try simp only [Act.put, sA, s0, s1]
   refine tkH 8 26 (.pointer (some ⟨g, x * 14, none⟩)) rfl rfl (by kernel_rfl) (by rfl) (by intro Y hY; go_simp; try with_reducible rfl) (fun _ _ _ h => h) hHeld ?_
   try simp only [Act.put, sA, s0, s1]
   refine tkH 9 27 (.agg cx.toArray) rfl rfl (by kernel_rfl) (by rfl) (by intro Y hY; exact mid_run 41 _ rfl g (x * 14) rfl cx _ (HCC.out Y hY).2 Tryz.underlying41 rfl hsz) (fun _ _ _ h => h) hHeld ?_
   try simp only [Act.put, sA, s0, s1]
   refine opZ 10 rfl (by kernel_rfl) (by rfl) (fun K' hK => ?_)
   unfold Oper.wp
   go_simp
   rw [HA.out, HN.out]
   refine hK.out _ _ HKA.out (fun hHeld => ?_)
   clear hK
   refine opZ 11 rfl (by kernel_rfl) (by rfl) (fun K' hK => ?_)
   refine wp_store_row 41 _ _ rfl N cx.toArray rfl rfl 41 _ HBA.out (by rw [List.size_toArray]; exact hsz) (by show 14 = cx.toArray.size; rw [List.size_toArray, hcl]) h1c ?_
   rw [HV.out]
   refine hK.out _ _ HKV.out (fun hHeld => ?_)
   clear hK
   refine wpAnyH_done (by kernel_rfl) ?_ _
   clear hHeld HA HV HKA HBA HDD HC1 HCC
   by_cases k1 : kx = 1
   ·subst k1
    obtain ⟨qs, hqs⟩ : ∃ q, (nx.toList == [115, 108, 111, 116]) = q := ⟨_, rfl⟩
    cases qs with
    | true =>
     have HSL : Hid (isSl (M.nd x) = true) := isSl_iff.2 ⟨HKX.out, by rw [HNX.out]; simpa using hqs⟩
     have HFL : Hid ((L.take (j + 1)).filter (fun k => isSl (M.nd k)) = (L.take j).filter (fun k => isSl (M.nd k)) ++ [x]) := by
      rw [HTK.out, List.filter_append]
      congr 1
      simp [HSL.out]
     have dv : V.cell? ⟨b, o + j, none⟩ = some (.int .i64 (x : Int)) := HDV.out
     obtain ⟨Z, hZ⟩ : ∃ Z, V.alloc (.cells #[.int .i64 (x : Int)] 3) = Z := ⟨_, rfl⟩
     obtain ⟨NZ, hNZ⟩ : ∃ N, V.heap.size = N := ⟨_, rfl⟩
     have hbz : Z.heap[NZ]? = some (.cells #[.int .i64 (x : Int)] 3 (0, 0)) := by rw [<- hZ, <- hNZ]; exact heap_alloc_new V _
     have kZ : Kept (fun k => k < V.heap.size) V Z := by rw [<- hZ]; exact (Kept.refl _ V).alloc (fun _ h => h) _
     have hOZ : OwnZ (fun k => k < w5.heap.size) Z 3 1 ao n c (ivs ((L.take j).filter fun k => isSl (M.nd k))) := HOV.out.to (fun q hq => (HOV.out.out hq).1) (fun q hq => kZ.block q (HOV.out.out hq).2)
     have hIZ : IntsAt (fun _ => True) Z (some ⟨NZ, 0, none⟩) [x] := fun i hi => by
      have : i = 0 := by simpa using hi
      subst this
      exact ⟨NZ, 0, rfl, trivial, by rw [cell_block hbz]; rfl⟩
     obtain ⟨ao', c', U, hrun, hO', hK'⟩ := app_ints (ac := 1) hOZ rfl hIZ (fun k h => Nat.lt_of_lt_of_le h (Nat.le_trans HKW.out.size kZ.size)) (by omega) (by show 1 <= 100000000; decide)
     have HZ : Hid (V.alloc (.cells #[.int .i64 (x : Int)] 3) = Z) := hZ
     have HNZ : Hid (V.heap.size = NZ) := hNZ
     have HOU : Hid (OwnZ (fun k => k < w5.heap.size) U 3 1 ao' (n + 1) c' (ivs ((L.take (j + 1)).filter fun k => isSl (M.nd k))) /\ Kept (fun k => k < w5.heap.size) w5 U /\ ((L.take (j + 1)).filter fun k => isSl (M.nd k)).length = n + 1) := by
      rw [HFL.out]
      exact ⟨hO', (HKW.out.trans (kZ.mono fun k h => Nat.lt_of_lt_of_le h HKW.out.size)).trans hK', by rw [List.length_append, HLN.out]; rfl⟩
     have hrun' : (Builtin.append_ #[33, 33] 33 #[.slice ao n c, .slice (some ⟨NZ, 0, none⟩) 1 1]).run Tryz.prog Z = .ok (.slice ao' (n + 1) c') U := hrun
     clear hZ hNZ hbz kZ hOZ hIZ hrun hO' hK'
     go_upto_region 8 with fail
     go_wp2_with (at_builtin; rw [HZ.out, HNZ.out]; refine wpList_appR (w' := U) rfl (.tmp 36) (.tmp 41) 33 33 rfl _ _ (.slice ao' (n + 1) c') rfl rfl hrun' ?_)
     go_roundg (ll - (j + 1))
     case rel => exact ⟨j + 1, _, _, _, rfl, by omega, by go_num, rfl, HOU.out.2.2, HOU.out.1, HOU.out.2.1⟩
     case measure => omega
    | false =>
     have HFL : Hid ((L.take (j + 1)).filter (fun k => isSl (M.nd k)) = (L.take j).filter (fun k => isSl (M.nd k))) := by
      rw [HTK.out, List.filter_append, List.filter_cons_of_neg (by
       intro hh
       have := (isSl_iff.1 hh).2
       rw [HNX.out] at this
       rw [this] at hqs
       simp at hqs), List.filter_nil, List.append_nil]
      exact rfl
     go_wp2
     go_roundg (ll - (j + 1))
     case rel => exact ⟨j + 1, _, _, _, rfl, by omega, by go_num, rfl, by rw [HFL.out]; exact HLN.out, by rw [HFL.out]; exact HOV.out, HKW.out⟩
     case measure => omega
   ·have e1 : ((kx : Int) == 1) = false := by simp; omega
    have HFL : Hid ((L.take (j + 1)).filter (fun k => isSl (M.nd k)) = (L.take j).filter (fun k => isSl (M.nd k))) := by
     rw [HTK.out, List.filter_append, List.filter_cons_of_neg (by
      intro hh
      have := (isSl_iff.1 hh).1
      rw [HKX.out] at this
      exact k1 this), List.filter_nil, List.append_nil]
     exact rfl
    clear k1
    go_wp2
    go_roundg (ll - (j + 1))
    case rel => exact ⟨j + 1, _, _, _, rfl, by omega, by go_num, rfl, by rw [HFL.out]; exact HLN.out, by rw [HFL.out]; exact HOV.out, HKW.out⟩
    case measure => omega
  ·have hjn : ll = j := by omega
   subst hjn
   have hall : L.take ll = L := List.take_of_length_le (by rw [HLL.out]; exact Nat.le_refl _)
   rw [hall] at HO HLN
   go_wp2
   go_ret
   refine ⟨ao, c, by rw [HLN.out]; rfl, by rw [HLN.out]; exact OwnZ.to HO.out (fun q hq hh => (HO.out.out hq).1 (Nat.lt_of_lt_of_le hh HK5.out.size)) (fun _ _ => rfl), HK5.out.trans (HK.out.mono fun k h => Nat.lt_of_lt_of_le h HK5.out.size)⟩
end
end
section
open Go.RowKit Go.Sort
theorem fstO_filter (nm : List UInt8) (M : Dm) (L : List Nat) : fstO (fun k => slNm nm (M.nd k)) L = fstO (fun k => decide (atV nameN (M.nd k).attrs = nm)) (L.filter fun k => isSl (M.nd k)) := by
 unfold fstO
 rw [List.find?_filter]
 have e : (fun a => decide (isSl (M.nd a) = true /\ decide (atV nameN (M.nd a).attrs = nm) = true)) = fun k => slNm nm (M.nd k) := by
  funext a
  unfold slNm
  cases isSl (M.nd a) <;> simp
 rw [e]
section
variable {K : Nat -> Prop} {w : World} {p : Nat} {M : Dm} {R G : Nat -> List Nat} {rk : Nat -> Nat}
theorem Rr.find_in (h : Rr K w p M R G rk) {i : Nat} (hi : i < M.n) : Calls Tryz.prog 21 #[.pointer (some ⟨p, 0, none⟩), .int .i64 (i : Int)] w fun e w' => e = .returned (.int .i64 (findZ M R i)) /\ Kept (fun k => k < w.heap.size) w w' := by
 have rq0 : ∀ k, Calls Tryz.prog 66 #[.pointer (some ⟨p, 0, none⟩), .int .i64 (i : Int)] (w.drewN k) fun e w' => e = .returned (.bool (showB (M.nd i))) /\ w' = w.drewN k := fun k => (h.kept ((Kept.refl _ w).drewN k)).shown_in hi
 obtain ⟨g, nc, hrow⟩ := h.r.rowAt
 have HROW : Hid (∀ i, i < M.n -> ∃ aa ac ka kc, ∀ Y, Kept (fun k => k < w.heap.size) w Y -> Y.cell? ⟨p, 1, none⟩ = some (.slice (some ⟨g, 0, none⟩) M.n nc) /\ Y.rangeAt g (i * 14) (rnCells (M.nd i) (M.pl i).up aa ac ka (R i).length kc) /\ AtsAt (fun k => k < Y.heap.size) Y aa (M.nd i).attrs) := hrow
 obtain ⟨aa, ac, ka, kc, hY⟩ := hrow i hi
 have hF := h.inv.findC hi
 have hups := h.inv.ups' hi
 obtain ⟨Z, hZ⟩ : ∃ Z, findZ M R i = Z := ⟨_, rfl⟩
 rw [hZ] at hF ⊢
 obtain ⟨q, hq⟩ : ∃ q, showB (M.nd i) = q := ⟨_, rfl⟩
 have HQ : Hid (showB (M.nd i) = q) := hq
 have hn := h.le
 obtain ⟨m, hm⟩ : ∃ m, M.n = m := ⟨_, rfl⟩
 have HM : Hid (M.n = m) := hm
 have HR : Hid (Rr K w p M R G rk) := h
 have HI : Hid (i < M.n) := hi
 have HC1 : Hid (∀ Y, Kept (fun k => k < w.heap.size) w Y -> Y.cell? ⟨p, 1, none⟩ = some (.slice (some ⟨g, 0, none⟩) m nc)) := fun Y h' => by rw [<- hm]; exact (hY Y h').1
 have HC4 : Hid (∀ Y, Kept (fun k => k < w.heap.size) w Y -> Y.cell? ⟨g, i * 14 + 4, none⟩ = some (.int .i64 (M.pl i).up)) := fun Y h' => (hY Y h').2.1 4 _ rfl
 have HY : Hid (∀ Y, Kept (fun k => k < w.heap.size) w Y -> Y.cell? ⟨p, 1, none⟩ = some (.slice (some ⟨g, 0, none⟩) M.n nc) /\ Y.rangeAt g (i * 14) (rnCells (M.nd i) (M.pl i).up aa ac ka (R i).length kc) /\ AtsAt (fun k => k < Y.heap.size) Y aa (M.nd i).attrs) := hY
 rw [hm] at hn hi
 rw [hq] at rq0
 have c1 := HC1.out w (Kept.refl _ _)
 have c4 := HC4.out w (Kept.refl _ _)
 clear h hrow hY hZ hq hm
 have rq := rq0
 clear rq0
 cases q with
 | false =>
  have HZ : Hid (Z = -1) := by
   cases hF with
   | none e _ => exact e
   | hand _ _ _ _ h1 _ _ _ _ => rw [HQ.out] at h1; cases h1
   | name _ _ _ _ h1 _ _ _ _ => rw [HQ.out] at h1; cases h1
  clear hF hups
  go_enter Tryz.func21, Tryz.ntmps21
  go_upto_region 1 with fail
  go_quiet ((go_at_call 66; exact Calls.quiet_of_same (rq _)))
  go_wp2
  go_ret
  exact ⟨by rw [HZ.out]; rfl, (Kept.refl _ w).drewN _⟩
 | true =>
  rcases hups with hu | ⟨u, hun, hu⟩
  ·have HZ : Hid (Z = -1) := by
    cases hF with
    | none e _ => exact e
    | hand _ _ _ _ _ e _ _ _ => omega
    | name _ _ _ _ _ e _ _ _ => omega
   rw [hu] at c4
   clear hF hu
   go_enter Tryz.func21, Tryz.ntmps21
   go_upto_region 1 with fail
   go_quiet ((go_at_call 66; exact Calls.quiet_of_same (rq _)))
   go_wp2
   go_ret
   exact ⟨by rw [HZ.out]; rfl, (Kept.refl _ w).drewN _⟩
  ·have HU : Hid ((M.pl i).up = (u : Int)) := hu
   obtain ⟨ua, uc, uk, ukc, hUY⟩ := HROW.out u hun
   have HC6 : Hid (∀ Y, Kept (fun k => k < w.heap.size) w Y -> Y.cell? ⟨g, u * 14 + 6, none⟩ = some (.int .i64 (M.nd u).shadow)) := fun Y h' => (hUY Y h').2.1 6 _ rfl
   have hsh := HR.out.inv.sh hun
   rw [hu] at c4
   have e0 : decide ((u : Int) < 0) = false := decide_eq_false (by omega)
   have hum : u < m := by rw [<- HM.out]; exact hun
   clear hUY hu hun
   rcases hsh with hs | ⟨s, hsn, hs⟩
   ·have HZ : Hid (Z = -1) := by
     cases hF with
     | none e _ => exact e
     | hand u' s' _ _ _ e1 e2 _ _ =>
      have : u' = u := by have := HU.out; omega
      subst this; omega
     | name u' s' _ _ _ e1 e2 _ _ =>
      have : u' = u := by have := HU.out; omega
      subst this; omega
    have c6 := HC6.out w (Kept.refl _ _)
    rw [hs] at c6
    clear hF hs
    go_enter Tryz.func21, Tryz.ntmps21
    go_upto_region 1 with fail
    go_quiet ((go_at_call 66; exact Calls.quiet_of_same (rq _)))
    go_wp2
    go_ret
    exact ⟨by rw [HZ.out]; rfl, (Kept.refl _ w).drewN _⟩
   ·have HS : Hid ((M.nd u).shadow = (s : Int)) := hs
    have HSN : Hid (s < M.n) := hsn
    obtain ⟨sa, sc, sk, skc, hSY⟩ := HROW.out s hsn
    have HC10 : Hid (∀ Y, Kept (fun k => k < w.heap.size) w Y -> Y.cell? ⟨g, s * 14 + 10, none⟩ = some (.bool (M.nd s).fl.b)) := fun Y h' => (hSY Y h').2.1 10 _ rfl
    have c6 := HC6.out w (Kept.refl _ _)
    rw [hs] at c6
    have e1 : decide ((s : Int) < 0) = false := decide_eq_false (by omega)
    have hsm : s < m := by rw [<- HM.out]; exact hsn
    obtain ⟨mb, hmb⟩ : ∃ b, (M.nd s).fl.b = b := ⟨_, rfl⟩
    have HMB : Hid ((M.nd s).fl.b = mb) := hmb
    rw [hmb] at HC10
    clear hSY hs hsn hmb
    cases mb with
    | true =>
     have HZ : Hid (Z = handZ M i s) := by
      cases hF with
      | none e c =>
       rcases c with c | c | ⟨u', _, x1, x2⟩
       ·rw [HQ.out] at c; cases c
       ·have := HU.out; omega
       ·have : u' = u := by have := HU.out; omega
        subst this; have := HS.out; omega
      | hand u' s' _ _ _ x1 x2 _ e =>
       have : u' = u := by have := HU.out; omega
       subst this
       have : s' = s := by have := HS.out; omega
       subst this; exact e
      | name u' s' _ _ _ x1 x2 b _ =>
       have : u' = u := by have := HU.out; omega
       subst this
       have : s' = s := by have := HS.out; omega
       subst this; rw [HMB.out] at b; cases b
     clear hF
     go_enter Tryz.func21, Tryz.ntmps21
     go_upto_region 1 with fail
     go_quiet ((go_at_call 66; exact Calls.quiet_of_same (rq _)))
     obtain ⟨X1, hX1⟩ : ∃ X, w.drewN nq = X := ⟨_, rfl⟩
     rw [hX1]
     have HKX1 : Hid (Kept (fun k => k < w.heap.size) w X1) := by rw [<- hX1]; exact (Kept.refl _ w).drewN _
     clear hX1 c1 c4 c6
     have c1 := HC1.out X1 HKX1.out
     have c4 := HC4.out X1 HKX1.out
     have c6 := HC6.out X1 HKX1.out
     rw [HU.out] at c4
     rw [HS.out] at c6
     go_upto_region 3 with fail
     go_quiet (fail)
     obtain ⟨X, hX⟩ : ∃ X, X1.drewN nq = X := ⟨_, rfl⟩
     rw [hX]
     have HKX : Hid (Kept (fun k => k < w.heap.size) w X) := by rw [<- hX]; exact HKX1.out.drewN _
     clear hX c1 c4 c6 HKX1
     have c1 := HC1.out X HKX.out
     have c10 := HC10.out X HKX.out
     go_upto_region 5 with fail
     have RSL : Hid (∃ gz : Int, gz = (M.gf i).up /\ ∀ X, Kept (fun k => k < w.heap.size) w X -> Calls Tryz.prog 67 #[.pointer (some ⟨p, 0, none⟩), .int .i64 (i : Int)] X fun e w' => e = .returned (.int .i64 gz) /\ w' = X) := ⟨_, rfl, fun X hX => (rslot_any K p M R G (i : Int) X (HR.out.kept hX).r (Nat.le_trans HR.out.le (by decide)) (fun k hk => Nat.le_trans (nodup_le M.n _ (HR.out.inv.gw.nodup k hk) (fun x hx => HR.out.inv.gw.lt k hk x hx)) (Nat.le_trans HR.out.le (by decide)))).mono fun e w' ⟨z, hz, he, hw⟩ => ⟨by rw [he, hz.one (HR.out.inv.gw.slotA HI.out)], hw⟩⟩
     obtain ⟨gz, hgz, hrs⟩ := RSL.out
     have rs := hrs X HKX.out
     clear RSL hrs
     rcases HR.out.inv.gw.inn i HI.out with h0 | ⟨v, hv, hvu, -⟩
     ·have hg1 : gz = -1 := by rw [hgz, h0]
      subst hg1
      have HZ1 : Hid (Z = -1) := by
       rw [HZ.out]
       unfold handZ
       rw [h0]
       split <;> exact rfl
      have e2 : decide ((-1 : Int) >= 0) = false := by decide
      clear h0 hgz
      go_wp2_with (go_at_call 67; refine rs.mono ?_; rintro e1 w3 ⟨rfl, hw3⟩; replace hw3 := hw3.symm; subst hw3)
      go_ret
      exact ⟨by rw [HZ1.out]; rfl, HKX.out⟩
     ·have hg1 : gz = (v : Int) := by rw [hgz, hvu]
      subst hg1
      have ro := (HR.out.kept HKX.out).of hv
      obtain ⟨zo, hzo⟩ : ∃ zo, ofZ M (v : Int) = zo := ⟨_, rfl⟩
      rw [hzo] at ro
      have HZ1 : Hid (Z = if zo = (s : Int) then (v : Int) else -1) := by
       rw [HZ.out]
       unfold handZ
       rw [hvu, hzo]
       exact rfl
      have e2 : decide ((v : Int) >= 0) = true := decide_eq_true (by omega)
      clear hvu hgz hzo hv
      obtain ⟨qe, hqe⟩ : ∃ q, (zo == (s : Int)) = q := ⟨_, rfl⟩
      cases qe with
      | true =>
       have HZ2 : Hid (Z = (v : Int)) := by rw [HZ1.out, if_pos (by simpa using hqe)]; exact rfl
       clear HZ1
       go_wp2_with (first | (go_at_call 67; refine rs.mono ?_; rintro e1 w3 ⟨rfl, hw3⟩; replace hw3 := hw3.symm; subst hw3) | (go_at_call 32; refine ro.mono ?_; rintro e1 w3 ⟨rfl, hw3⟩; replace hw3 := hw3.symm; subst hw3))
       go_ret
       exact ⟨by rw [HZ2.out]; rfl, HKX.out⟩
      | false =>
       have h9 : ¬ zo = (s : Int) := by simpa using hqe
       have HZ2 : Hid (Z = -1) := by rw [HZ1.out, if_neg h9]; exact rfl
       clear HZ1 h9
       go_wp2_with (first | (go_at_call 67; refine rs.mono ?_; rintro e1 w3 ⟨rfl, hw3⟩; replace hw3 := hw3.symm; subst hw3) | (go_at_call 32; refine ro.mono ?_; rintro e1 w3 ⟨rfl, hw3⟩; replace hw3 := hw3.symm; subst hw3))
       go_ret
       exact ⟨by rw [HZ2.out]; rfl, HKX.out⟩
    | false =>
     have HZ : Hid (Z = fstS M R (atV slotN (M.nd i).attrs) s) := by
      cases hF with
      | none e c =>
       rcases c with c | c | ⟨u', _, x1, x2⟩
       ·rw [HQ.out] at c; cases c
       ·have := HU.out; omega
       ·have : u' = u := by have := HU.out; omega
        subst this; have := HS.out; omega
      | hand u' s' _ _ _ x1 x2 b _ =>
       have : u' = u := by have := HU.out; omega
       subst this
       have : s' = s := by have := HS.out; omega
       subst this; rw [HMB.out] at b; cases b
      | name u' s' _ _ _ x1 x2 b e =>
       have : u' = u := by have := HU.out; omega
       subst this
       have : s' = s := by have := HS.out; omega
       subst this; exact e
     clear hF
     go_enter Tryz.func21, Tryz.ntmps21
     go_upto_region 1 with fail
     go_quiet ((go_at_call 66; exact Calls.quiet_of_same (rq _)))
     obtain ⟨X1, hX1⟩ : ∃ X, w.drewN nq = X := ⟨_, rfl⟩
     rw [hX1]
     have HKX1 : Hid (Kept (fun k => k < w.heap.size) w X1) := by rw [<- hX1]; exact (Kept.refl _ w).drewN _
     clear hX1 c1 c4 c6
     have c1 := HC1.out X1 HKX1.out
     have c4 := HC4.out X1 HKX1.out
     have c6 := HC6.out X1 HKX1.out
     rw [HU.out] at c4
     rw [HS.out] at c6
     go_upto_region 3 with fail
     go_quiet (fail)
     obtain ⟨X, hX⟩ : ∃ X, X1.drewN nq = X := ⟨_, rfl⟩
     rw [hX]
     have HKX : Hid (Kept (fun k => k < w.heap.size) w X) := by rw [<- hX]; exact HKX1.out.drewN _
     clear hX c1 c4 c6 HKX1
     have c1 := HC1.out X HKX.out
     have c10 := HC10.out X HKX.out
     go_upto_region 9 with fail
     have rt := (HR.out.kept HKX.out).slots_in HSN.out
     have HLT : Hid (∀ x ∈ (tr M.n R s).filter (fun k => isSl (M.nd k)), x < M.n) := fun x hx => tr_lt HR.out.inv.good.falls _ s HSN.out x (List.mem_filter.1 hx).1
     have hle := Nat.le_trans (List.length_filter_le (fun k => isSl (M.nd k)) (tr M.n R s)) (tr_len HR.out.inv.good.only HSN.out)
     obtain ⟨nm, hnm⟩ : ∃ nm, atV slotN (M.nd i).attrs = nm := ⟨_, rfl⟩
     have HNM : Hid (atV slotN (M.nd i).attrs = nm) := hnm
     have hzf : Z = fstO (fun k => decide (atV nameN (M.nd k).attrs = nm)) ((tr M.n R s).filter fun k => isSl (M.nd k)) := by
      rw [HZ.out]
      unfold fstS
      rw [fstO_filter, hnm]
     obtain ⟨L, hL⟩ : ∃ L, (tr M.n R s).filter (fun k => isSl (M.nd k)) = L := ⟨_, rfl⟩
     rw [hL] at rt HLT hle hzf
     rw [HM.out] at hle
     have HZF : Hid (Z = fstO (fun k => decide (atV nameN (M.nd k).attrs = nm)) L) := hzf
     obtain ⟨ll, hll⟩ : ∃ ll, L.length = ll := ⟨_, rfl⟩
     have HLL : Hid (L.length = ll) := hll
     rw [hll] at hle
     clear hnm hzf hL HZ
     go_upto_region 10 with (go_at_call 28; refine rt.mono ?_; rintro e w5 ⟨ta, tc, rfl, hTO, hk5⟩; rw [hll])
     have HRW : Hid (IntsAt (fun g => g < w5.heap.size) w5 ta L) := hTO.intsAt fun g hg => (hTO.out hg).2
     have HK5 : Hid (Kept (fun k => k < w.heap.size) w w5) := HKX.out.trans (hk5.mono fun k h => Nat.lt_of_lt_of_le h HKX.out.size)
     clear rt hTO hk5 hll c1 c10
     go_upto_region 11 with fail
     go_loopg [8] ll (fun gh v8 wr => ∃ j : Nat, gh = ll - j /\ j <= ll /\ v8 = .int .i64 (j : Int) /\ (∀ y ∈ L.take j, decide (atV nameN (M.nd y).attrs = nm) = false) /\ Kept (fun k => k < w5.heap.size) w5 wr)
     case atStart => exact ⟨0, rfl, Nat.zero_le _, rfl, fun y hy => by simp at hy, Kept.refl _ _⟩
     case round =>
      obtain ⟨j, hgj, hj, rfl, hno, hKj⟩ := hrel
      have HNO : Hid (∀ y ∈ L.take j, decide (atV nameN (M.nd y).attrs = nm) = false) := hno
      have HKJ : Hid (Kept (fun k => k < w5.heap.size) w5 wr) := hKj
      have HKW : Hid (Kept (fun k => k < w.heap.size) w wr) := HK5.out.trans (hKj.mono fun k h => Nat.lt_of_lt_of_le h HK5.out.size)
      clear hno hKj
      by_cases hlt : j < ll
      ·have hjL : j < L.length := by rw [HLL.out]; exact hlt
       obtain ⟨b, o, rfl, hb, dd⟩ := HRW.out j hjL
       have hxn := HLT.out L[j] (List.getElem_mem hjL)
       have htk : L.take (j + 1) = L.take j ++ [L[j]] := List.take_succ_eq_append_getElem hjL
       have hsp : L = L.take j ++ (L[j] :: L.drop (j + 1)) := by rw [<- List.drop_eq_getElem_cons hjL, List.take_append_drop]
       obtain ⟨x, hx⟩ : ∃ x, L[j] = x := ⟨_, rfl⟩
       rw [hx] at dd hxn htk hsp
       have HTK : Hid (L.take (j + 1) = L.take j ++ [x]) := htk
       have HZX : Hid (decide (atV nameN (M.nd x).attrs = nm) = true -> Z = (x : Int)) := fun hp => by
        rw [HZF.out, hsp]
        unfold fstO
        rw [List.find?_append, List.find?_eq_none.2 (fun y hy => by rw [HNO.out y hy]; simp), List.find?_cons_of_pos (p := fun k => decide (atV nameN (M.nd k).attrs = nm)) hp]
        rfl
       obtain ⟨xa, xc, xk, xkc, hXY⟩ := HROW.out x hxn
       obtain ⟨cx, hcx⟩ : ∃ cx, rnCells (M.nd x) (M.pl x).up xa xc xk (R x).length xkc = cx := ⟨_, rfl⟩
       obtain ⟨ci, hci⟩ : ∃ ci, rnCells (M.nd i) (M.pl i).up aa ac ka (R i).length kc = ci := ⟨_, rfl⟩
       have hsx : (Tryz.prog.info? 41).map (·.size) = some cx.length := by rw [<- hcx]; rfl
       have hsi : (Tryz.prog.info? 41).map (·.size) = some ci.length := by rw [<- hci]; rfl
       have HW : Hid (∀ Y, Kept (fun k => k < wr.heap.size) wr Y -> Kept (fun k => k < w.heap.size) w Y) := fun Y hY => HKW.out.trans (hY.mono fun k h => Nat.lt_of_lt_of_le h HKW.out.size)
       have HDD : Hid (∀ Y, Kept (fun k => k < wr.heap.size) wr Y -> Y.cell? ⟨b, o + j, none⟩ = some (.int .i64 (x : Int))) := fun Y hY => ((HKJ.out.trans (hY.mono fun k h => Nat.lt_of_lt_of_le h HKJ.out.size)).cell (p := ⟨b, o + j, none⟩) hb).trans dd
       have HE1 : Hid (∀ Y, Kept (fun k => k < wr.heap.size) wr Y -> Y.cell? ⟨p, 1, none⟩ = some (.slice (some ⟨g, 0, none⟩) m nc)) := fun Y hY => HC1.out Y (HW.out Y hY)
       have HXX : Hid (∀ Y, Kept (fun k => k < wr.heap.size) wr Y -> Y.rangeAt g (x * 14) cx) := fun Y hY => by rw [<- hcx]; exact (hXY Y (HW.out Y hY)).2.1
       have HII : Hid (∀ Y, Kept (fun k => k < wr.heap.size) wr Y -> Y.rangeAt g (i * 14) ci) := fun Y hY => by rw [<- hci]; exact (HY.out Y (HW.out Y hY)).2.1
       have R1 : Hid (∀ Y, Kept (fun k => k < wr.heap.size) wr Y -> Calls Tryz.prog 68 #[.agg cx.toArray, .string ⟨#[110, 97, 109, 101]⟩] Y fun e w' => e = .returned (sv (atV nameN (M.nd x).attrs)) /\ Kept (fun k => k < Y.heap.size) Y w') := fun Y hY => by
        have := rval_any (M.nd x) xa xc (M.pl x).up xk (R x).length xkc ⟨#[110, 97, 109, 101]⟩ Y (HR.out.inv.good.few x hxn) (hXY Y (HW.out Y hY)).2.2
        rw [ByteArray.toList_eq] at this
        rw [<- hcx]
        exact this
       have R2 : Hid (∀ Y, Kept (fun k => k < wr.heap.size) wr Y -> Calls Tryz.prog 68 #[.agg ci.toArray, .string ⟨#[115, 108, 111, 116]⟩] Y fun e w' => e = .returned (sv nm) /\ Kept (fun k => k < Y.heap.size) Y w') := fun Y hY => by
        have := rval_any (M.nd i) aa ac (M.pl i).up ka (R i).length kc ⟨#[115, 108, 111, 116]⟩ Y (HR.out.inv.good.few i HI.out) (HY.out Y (HW.out Y hY)).2.2
        rw [ByteArray.toList_eq] at this
        rw [<- HNM.out, <- hci]
        exact this
       obtain ⟨au, hau⟩ : ∃ b, (⟨(atV nameN (M.nd x).attrs).toArray⟩ : ByteArray) = b := ⟨_, rfl⟩
       have HAU : Hid (atV nameN (M.nd x).attrs = au.toList) := by rw [<- hau, ByteArray.toList_eq]; exact rfl
       obtain ⟨nu, hnu⟩ : ∃ b, (⟨nm.toArray⟩ : ByteArray) = b := ⟨_, rfl⟩
       have HNU : Hid (nm = nu.toList) := by rw [<- hnu, ByteArray.toList_eq]; exact rfl
       unfold sv at R1 R2
       rw [hau] at R1
       rw [hnu] at R2
       obtain ⟨qd, hqd⟩ : ∃ q, (au.toList == nu.toList) = q := ⟨_, rfl⟩
       have HP : Hid (decide (atV nameN (M.nd x).attrs = nm) = qd) := by
        rw [HAU.out, HNU.out, <- hqd]
        by_cases cc : au.toList = nu.toList
        ·rw [decide_eq_true cc, cc]; exact (beq_self_eq_true _).symm
        ·rw [decide_eq_false cc]; exact (beq_eq_false_iff_ne.2 cc).symm
       have hxm : x < m := by rw [<- HM.out]; exact hxn
       clear dd hx hxn htk hsp hXY hcx hci hau hnu
       go_upto_region 13 with fail
       refine wp_region_held_drew (S := fun Y => Kept (fun k => k < wr.heap.size) wr Y) (by kernel_rfl) ((Kept.refl _ wr).drew) (fun hHeld => ?_)
       refine tkH 0 88 (.pointer (some ⟨p, 0, none⟩)) rfl rfl (by kernel_rfl) (by rfl) (by intro Y hY; go_simp; try with_reducible rfl) (fun _ _ _ h => h) hHeld ?_
       try simp only [Act.put, sA, s0, s1]
       refine tkH 1 89 (.pointer (some ⟨p, 0, none⟩)) rfl rfl (by kernel_rfl) (by rfl) (by intro Y hY; go_simp; try with_reducible rfl) (fun _ _ _ h => h) hHeld ?_
       try simp only [Act.put, sA, s0, s1]
       refine tkH 2 90 (.pointer (some ⟨p, 1, none⟩)) rfl rfl (by kernel_rfl) (by rfl) (by intro Y hY; go_simp; try with_reducible rfl) (fun _ _ _ h => h) hHeld ?_
       try simp only [Act.put, sA, s0, s1]
       refine tkH 3 91 (.slice (some ⟨g, 0, none⟩) m nc) rfl rfl (by kernel_rfl) (by rfl) (by intro Y hY; have hc := HE1.out Y hY; go_simp; try with_reducible rfl) (fun _ _ _ h => h) hHeld ?_
       try simp only [Act.put, sA, s0, s1]
       refine tkH 4 92 (.slice (some ⟨b, o, none⟩) ll tc) rfl rfl (by kernel_rfl) (by rfl) (by intro Y hY; go_simp; try with_reducible rfl) (fun _ _ _ h => h) hHeld ?_
       try simp only [Act.put, sA, s0, s1]
       refine tkH 5 93 (.int .i64 (j : Int)) rfl rfl (by kernel_rfl) (by rfl) (by intro Y hY; go_simp; try with_reducible rfl) (fun _ _ _ h => h) hHeld ?_
       try simp only [Act.put, sA, s0, s1]
       refine tkH 6 94 (.pointer (some ⟨b, o + j, none⟩)) rfl rfl (by kernel_rfl) (by rfl) (by intro Y hY; go_simp; try with_reducible rfl) (fun _ _ _ h => h) hHeld ?_
       try simp only [Act.put, sA, s0, s1]
       refine tkH 7 95 (.int .i64 (x : Int)) rfl rfl (by kernel_rfl) (by rfl) (by intro Y hY; have hc := HDD.out Y hY; go_simp; try with_reducible rfl) (fun _ _ _ h => h) hHeld ?_
       try simp only [Act.put, sA, s0, s1]
       refine tkH 8 96 (.pointer (some ⟨g, x * 14, none⟩)) rfl rfl (by kernel_rfl) (by rfl) (by intro Y hY; go_simp; try with_reducible rfl) (fun _ _ _ h => h) hHeld ?_
       try simp only [Act.put, sA, s0, s1]
       refine tkH 9 97 (.agg cx.toArray) rfl rfl (by kernel_rfl) (by rfl) (by intro Y hY; exact mid_run 41 _ rfl g (x * 14) rfl cx _ (HXX.out Y hY) Tryz.underlying41 rfl hsx) (fun _ _ _ h => h) hHeld ?_
       try simp only [Act.put, sA, s0, s1]
       refine tkH 11 99 (.pointer (some ⟨p, 0, none⟩)) rfl rfl (by kernel_rfl) (by rfl) (by intro Y hY; go_simp; try with_reducible rfl) (fun _ _ _ h => h) hHeld ?_
       try simp only [Act.put, sA, s0, s1]
       refine tkH 12 100 (.pointer (some ⟨p, 0, none⟩)) rfl rfl (by kernel_rfl) (by rfl) (by intro Y hY; go_simp; try with_reducible rfl) (fun _ _ _ h => h) hHeld ?_
       try simp only [Act.put, sA, s0, s1]
       refine tkH 13 101 (.pointer (some ⟨p, 1, none⟩)) rfl rfl (by kernel_rfl) (by rfl) (by intro Y hY; go_simp; try with_reducible rfl) (fun _ _ _ h => h) hHeld ?_
       try simp only [Act.put, sA, s0, s1]
       refine tkH 14 102 (.slice (some ⟨g, 0, none⟩) m nc) rfl rfl (by kernel_rfl) (by rfl) (by intro Y hY; have hc := HE1.out Y hY; go_simp; try with_reducible rfl) (fun _ _ _ h => h) hHeld ?_
       try simp only [Act.put, sA, s0, s1]
       refine tkH 15 103 (.int .i64 (i : Int)) rfl rfl (by kernel_rfl) (by rfl) (by intro Y hY; go_simp; try with_reducible rfl) (fun _ _ _ h => h) hHeld ?_
       try simp only [Act.put, sA, s0, s1]
       refine tkH 16 104 (.pointer (some ⟨g, i * 14, none⟩)) rfl rfl (by kernel_rfl) (by rfl) (by intro Y hY; go_simp; try with_reducible rfl) (fun _ _ _ h => h) hHeld ?_
       try simp only [Act.put, sA, s0, s1]
       refine tkH 17 105 (.agg ci.toArray) rfl rfl (by kernel_rfl) (by rfl) (by intro Y hY; exact mid_run 41 _ rfl g (i * 14) rfl ci _ (HII.out Y hY) Tryz.underlying41 rfl hsi) (fun _ _ _ h => h) hHeld ?_
       try simp only [Act.put, sA, s0, s1]
       refine clH 10 98 68 #[.agg cx.toArray, .string ⟨#[110, 97, 109, 101]⟩] rfl rfl (by kernel_rfl) (by rfl) rfl (by first | rfl | (simp [Act.eval]; done) | (simp [Act.eval, Act.put]; done)) (enter68 _ _) (R1.out _ hHeld) ?_
       rintro e Y ⟨rfl, hk9⟩
       refine ⟨_, rfl, hHeld.trans (hk9.mono fun k h => Nat.lt_of_lt_of_le h hHeld.size), fun hHeld2 => ?_⟩
       replace hHeld := hHeld2
       clear hHeld2
       try simp only [Act.put, sA, s0, s1]
       refine clH 18 106 68 #[.agg ci.toArray, .string ⟨#[115, 108, 111, 116]⟩] rfl rfl (by kernel_rfl) (by rfl) rfl (by first | rfl | (simp [Act.eval]; done) | (simp [Act.eval, Act.put]; done)) (enter68 _ _) (R2.out _ hHeld) ?_
       rintro e Y2 ⟨rfl, hk9⟩
       refine ⟨_, rfl, hHeld.trans (hk9.mono fun k h => Nat.lt_of_lt_of_le h hHeld.size), fun hHeld2 => ?_⟩
       replace hHeld := hHeld2
       clear hHeld2
       try simp only [Act.put, sA, s0, s1]
       cases qd with
       | false =>
        have HF : Hid (∀ y ∈ L.take (j + 1), decide (atV nameN (M.nd y).attrs = nm) = false) := fun y hy => by
         rw [HTK.out] at hy
         rcases List.mem_append.1 hy with h | h
         ·exact HNO.out y h
         ·rw [List.mem_singleton.1 h]; exact HP.out
        refine tkH 19 107 (.bool false) rfl rfl (by kernel_rfl) (by rfl) (by intro Y hY; go_simp; try with_reducible rfl) (fun _ _ _ h => h) hHeld ?_
        try simp only [Act.put, sA, s0, s1]
        refine wpAnyH_done (by kernel_rfl) ?_ _
        have HKF : Hid (Kept (fun k => k < w5.heap.size) w5 Y2) := HKJ.out.trans (hHeld.mono fun k h => Nat.lt_of_lt_of_le h HKJ.out.size)
        clear hk9 hHeld
        go_wp2
        go_roundg (ll - (j + 1))
        case rel => exact ⟨j + 1, rfl, by omega, by go_num, HF.out, HKF.out⟩
        case measure => omega
       | true =>
        have HZ9 : Hid (Z = (x : Int)) := HZX.out HP.out
        refine tkH 19 107 (.bool true) rfl rfl (by kernel_rfl) (by rfl) (by intro Y hY; go_simp; try with_reducible rfl) (fun _ _ _ h => h) hHeld ?_
        try simp only [Act.put, sA, s0, s1]
        refine wpAnyH_done (by kernel_rfl) ?_ _
        have dv := HDD.out Y2 hHeld
        have HKF : Hid (Kept (fun k => k < w.heap.size) w Y2) := HW.out Y2 hHeld
        clear hk9 hHeld
        go_wp2
        go_ret
        exact ⟨by rw [HZ9.out]; rfl, HKF.out⟩
      ·have hjn : ll = j := by omega
       subst hjn
       have HZ9 : Hid (Z = -1) := by
        rw [HZF.out]
        unfold fstO
        rw [List.find?_eq_none.2 (fun y hy => by rw [HNO.out y (by rw [List.take_of_length_le (by rw [HLL.out]; exact Nat.le_refl _)]; exact hy)]; simp)]
        exact rfl
       go_wp2
       go_ret
       exact ⟨by rw [HZ9.out]; rfl, HKW.out⟩
end
end
end Go.Proofs.YtljnjdckhkglfaaGreat
