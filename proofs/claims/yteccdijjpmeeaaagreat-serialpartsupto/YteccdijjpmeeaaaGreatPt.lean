/-
  The walk of SerialParts.
-/
import Derived.Test.YteccdijjpmeeaaaGreatX5
import Derived.Deep.LoopGhost
import Derived.Deep.CutBlock
import Derived.BigQuiet
namespace Go.Proofs.YteccdijjpmeeaaaGreat
open Go.RowKit Go.Sort
set_option linter.unusedVariables false
set_option maxRecDepth 100000
set_option maxHeartbeats 8000000
theorem enterSO (args : Array Value) (X : World) : (callFunc 22 args).run Tryz.prog X = .ok (.enter 22 args) X := entersE Tryz.func22 (by kernel_rfl) (c := _) rfl args X
theorem yieldsOo {o : Oper} {a : Act} {X : World} {x : Operand} {N : Nat} {cs : Array Value} (ho : o.op = .load 41 x) (hx : a.eval x = .pointer (some ⟨N, 0, none⟩)) (hb : X.heap[N]? = some (.cells cs 41 (0, 0))) (hc : cs.size = 2) :
    (execOp a.eval o).run Tryz.prog X = .ok (.value (.agg cs)) X := by
  unfold execOp
  simp only [ho, hx, Instr.loadAt, Instr.sureAddr, Sem.run_bind, Sem.run_pure, Result.andThen_ok, run_loadVar_row X N 41 41 cs (0, 0) _ hb Tryz.underlying41 rfl (sizeO cs hc)]
section
variable {M : Dm} {R G : Nat → List Nat} {rk : Nat → Nat} {o : Ask}
theorem names_void : ∀ nm ∈ namesL, nm ≠ [98, 114] → voidP nm = false := by decide +kernel
theorem frag_plain (h : Inv M R G rk) {i : Nat} (hi : i < M.n) (h4 : (M.nd i).kind ≠ 1) : (M.nd i).shadow = -1 ∧ (M.nd i).content = -1 := by
  constructor
  · rcases h.core.shad i hi with e | ⟨k, -, -, h1, -⟩
    · exact e
    · exact absurd h1 h4
  · rcases h.core.cont i hi with e | ⟨k, -, -, h1, -⟩
    · exact e
    · exact absurd h1 h4
/-- What is in a Fragment, kid by kid. -/
theorem inn_frag (h : Inv M R G rk) {i : Nat} (hi : i < M.n) (h4 : (M.nd i).kind = 4) (F : Nat) : innF o M R (F + 1) i = (R i).flatMap fun k => outX (innF o M R F k) (M.nd k) (rawU M k) := by
  obtain ⟨e1, e2⟩ := frag_plain h hi (by omega)
  show innW o M R (innF o M R F) i = _
  unfold innW
  rw [if_neg (by unfold isV; rw [h4]; simp)]
  have es : shadW o M (innF o M R F) (M.nd i) = [] := if_pos e1
  have ec : srcN (M.nd i) i = i := if_pos e2
  rw [es, ec, List.nil_append]
  unfold kidsW
  refine flatMap_congr' fun k hk => ?_
  rw [outW_eq]
  have hu := h.good.wf.up hi hk
  have er : rawU M k = isR (M.nd i) := by unfold rawU; rw [if_neg (by rw [hu]; omega), hu, Int.toNat_natCast]
  rw [er]
end
theorem parts_go (l : List Opx) (n : Nat) (hln : l.length = n) (hnn : n ≤ 60) (a : Option Addr) (c : Nat) (hok : ∀ o ∈ l, OpOk o) (hb : opsH l ≤ 6000) (w : World) (h : OpsAt (fun k => k < w.heap.size) w a l) (za : Nat) (hza : za < 65536) (sr : Bool) (la : Option Addr) (rn rc : Nat) (rl : List Int) (hrl : rl.length = rn) (hrn : rn ≤ 60) (hri : IntsZ (fun k => k < w.heap.size) w la rl) :
    Calls Tryz.prog 6 #[.slice a n c, .int .u16 (za : Int), .agg #[.bool sr, .slice la rn rc]] w fun e w' => e = .returned (.bool true) ∧ Kept (fun k => k < w.heap.size) w w' := by
  obtain ⟨W0, NB, hW0, hNB, hbB, hkB, hzB⟩ := alloc_bx w #[.bool sr, .slice la rn rc] 41
  have h0 := h.kept hkB fun k hk => Nat.lt_of_lt_of_le hk hkB.size
  have rh := heavy16_any l n hln hnn a c (by omega) W0 h0
  rw [decide_eq_false (by omega : ¬ 6000 < opsH l)] at rh
  have RG : Hid (∀ X, Kept (fun k => k < W0.heap.size) W0 X → Calls Tryz.prog 17 #[.slice a n c] X fun e w' => ∃ p r E M R G rk, e = .returned (.tuple #[.pointer (some ⟨p, 0, none⟩), .pointer (some ⟨r, 0, none⟩)]) ∧ Grown (fun k => k < X.heap.size) E w' p r M R G rk 300 ∧ Kept (fun k => k < X.heap.size) X w') := fun X hX => grown16 l n hln (by omega) a c hok (by omega) X (h0.kept hX fun k hk => Nat.lt_of_lt_of_le hk hX.size)
  have HRI : Hid (IntsZ (fun k => k < W0.heap.size) W0 la rl) := IntsZ.kept hri hkB fun g hg => Nat.lt_of_lt_of_le hg hkB.size
  have HRL : Hid (rl.length = rn) := hrl
  have HBB : Hid (W0.heap[NB]? = some (.cells #[.bool sr, .slice la rn rc] 41 (0, 0))) := hbB
  have HNBL : Hid (NB < W0.heap.size) := lt_block hbB
  have HKB : Hid (Kept (fun k => k < w.heap.size) w W0) := hkB
  have HW0 : Hid (w.alloc (.cells #[.bool sr, .slice la rn rc] 41) = W0) := hW0
  have HNB : Hid (w.heap.size = NB) := hNB
  have OC : Hid (∀ X, Kept (fun k => k < W0.heap.size) W0 X → X.cell? ⟨NB, 0, none⟩ = some (.bool sr) ∧ X.cell? ⟨NB, 1, none⟩ = some (.slice la rn rc) ∧ X.heap[NB]? = some (.cells #[.bool sr, .slice la rn rc] 41 (0, 0))) := fun X hX => by
    have hh : X.heap[NB]? = some (.cells #[.bool sr, .slice la rn rc] 41 (0, 0)) := (hX.block NB HNBL.out).trans HBB.out
    exact ⟨by rw [cell_block hh]; rfl, by rw [cell_block hh]; rfl, hh⟩
  have OPT : Hid (∀ X, Kept (fun k => k < W0.heap.size) W0 X → ∃ o : Opt X, o.val = .agg #[.bool sr, .slice la rn rc] ∧ o.ask = ⟨sr, askA rl⟩) := fun X hX => ⟨⟨sr, la, rn, rc, rl, HRL.out, by omega, IntsZ.kept HRI.out hX fun g hg => Nat.lt_of_lt_of_le hg hX.size⟩, rfl, rfl⟩
  have e60 : decide ((rn : Int) > 60) = false := decide_eq_false (by omega)
  clear hln hok hb h h0 hri hrl hbB hkB hW0 hNB hzB
  go_enter Tryz.func6, Tryz.ntmps6
  go_upto_region 1 with fail
  rw [HW0.out, HNB.out]
  clear HW0 HNB
  go_wp2_with fail
  refine rh.mono ?_
  rintro e w1 ⟨rfl, k1⟩
  obtain ⟨o0, o1, -⟩ := OC.out w1 k1
  have rk0 := known16_any w1
  have HK1 : Hid (Kept (fun k => k < W0.heap.size) W0 w1) := k1
  clear rh k1
  go_wp2_with fail
  refine rk0.mono ?_
  rintro e w2 ⟨rfl, k2⟩
  have k12 : Kept (fun k => k < W0.heap.size) W0 w2 := HK1.out.trans (k2.mono fun k h => Nat.lt_of_lt_of_le h HK1.out.size)
  have rg := RG.out w2 k12
  have HK12 : Hid (Kept (fun k => k < W0.heap.size) W0 w2) := k12
  clear rk0 k2 k12 RG HK1 o0 o1 e60
  go_wp2_with fail
  refine rg.mono ?_
  rintro e W ⟨p, r, E, M, R, G, rk, rfl, hG, hK⟩
  have HKW : Hid (Kept (fun k => k < W0.heap.size) W0 W) := HK12.out.trans (hK.mono fun k h => Nat.lt_of_lt_of_le h HK12.out.size)
  obtain ⟨m, hm⟩ : ∃ m, M.n = m := ⟨_, rfl⟩
  have HM : Hid (M.n = m) := hm
  have hm300 : m ≤ 300 := by have h1 := hG.le; rw [hG.lim, hm] at h1; exact h1
  have hm1 : 1 ≤ m := by rw [← hm]; exact hG.inv.core.pos
  have rl0 : Calls Tryz.prog 11 #[.pointer (some ⟨p, 0, none⟩)] W fun e w' => e = .returned (.int .i64 (m : Int)) ∧ w' = W := by rw [← hm]; exact hG.len (Kept.refl _ _)
  have HI : Hid (Inv M R G rk) := hG.inv
  have HX : Hid (DX (TK (fun k => k < w2.heap.size) E) W p M) := hG.two.d
  have HTK : Hid (∀ k, k < W0.heap.size → TK (fun k => k < w2.heap.size) E k) := fun k hk => .inl (Nat.lt_of_lt_of_le hk HK12.out.size)
  obtain ⟨i, hi⟩ : ∃ i, za % m = i := ⟨_, rfl⟩
  have him : i < m := by rw [← hi]; exact Nat.mod_lt _ (by omega)
  have hi' : (za : Int).tmod (m : Int) = (i : Int) := by rw [← hi]; rfl
  have hin : i < M.n := by rw [hm]; exact him
  have HIN : Hid (i < M.n) := hin
  have HLM : Hid (M.limit = 300) := hG.lim
  have rnd := hG.node (by decide) hin (Kept.refl _ W)
  clear rg hG hK hm hi hin
  go_upto_region 7 with (go_at_call 11; refine rl0.mono ?_; rintro e1 w3 ⟨rfl, hw3⟩; replace hw3 := hw3.symm; subst hw3)
  clear rl0
  go_wp2_with fail
  refine rnd.mono ?_
  rintro e v1 ⟨ao1, ac1, ko1, kc1, rfl, hA1, hQ1, hK1⟩
  obtain ⟨x, hx⟩ : ∃ x, M.nd i = x := ⟨_, rfl⟩
  have HXX : Hid (M.nd i = x) := hx
  obtain ⟨up1, hup1⟩ : ∃ z, (M.pl i).up = z := ⟨_, rfl⟩
  obtain ⟨ln1, hln1⟩ : ∃ z, (R i).length = z := ⟨_, rfl⟩
  rw [hx, hup1, hln1]
  obtain ⟨V, N, hV, hN, hbN, hkN, hzN⟩ := alloc_bx v1 (nW x ao1 ac1 up1 ko1 ln1 kc1) 46
  have hkV : Kept (fun k => k < W.heap.size) W V := hK1.trans (hkN.mono fun k h => Nat.lt_of_lt_of_le h hK1.size)
  have HWV : Hid (Kept (fun k => k < W.heap.size) W V) := hkV
  have HKV : Hid (Kept (fun k => k < W0.heap.size) W0 V) := HKW.out.trans (hkV.mono fun k h => Nat.lt_of_lt_of_le h HKW.out.size)
  have HNL : Hid (W.heap.size ≤ N ∧ N < V.heap.size) := ⟨by rw [← hN]; exact hK1.size, lt_block hbN⟩
  have NC : Hid (∀ t, V.cell? ⟨N, t, none⟩ = (nW x ao1 ac1 up1 ko1 ln1 kc1)[t]?) := fun t => cell_block hbN t
  have HV : Hid (v1.alloc (.cells (nW x ao1 ac1 up1 ko1 ln1 kc1) 46) = V) := hV
  have HN : Hid (v1.heap.size = N) := hN
  obtain ⟨kd, hkd⟩ : ∃ k, x.kind = k := ⟨_, rfl⟩
  have HKD : Hid (x.kind = kd) := hkd
  have c0 : V.cell? ⟨N, 0, none⟩ = some (.int .u8 (kd : Int)) := (NC.out 0).trans (by show some (Value.int .u8 (x.kind : Int)) = _; rw [hkd])
  obtain ⟨o0, o1, -⟩ := OC.out V HKV.out
  have HQI : Hid (IntsAt (fun k => k < V.heap.size) V ko1 (R i)) := by
    have h1 : IntsAt (fun k => k < v1.heap.size) v1 ko1 (R i) := hQ1.intsAt fun g hg => (OwnZ.out hQ1 hg).2
    exact h1.go (fun k h => by omega) hkN
  have HLN1 : Hid ((R i).length = ln1) := hln1
  clear rnd hA1 hQ1 hK1 hx hup1 hln1 hV hN hbN hkN hzN hkV hkd
  go_upto_region 8 with fail
  rw [HV.out, HN.out]
  clear HV HN
  have hMle : M.n ≤ 100000 := by rw [HM.out]; omega
  obtain ⟨q, hq⟩ : ∃ q : Ask, ⟨sr, askA rl⟩ = q := ⟨_, rfl⟩
  have HXV : Hid (DX (TK (fun k => k < w2.heap.size) E) V p M) := HX.out.kept HWV.out
  have OUT : Hid (∀ (X : World) (j F : Nat), j < M.n → dn M.n rk j < F → Kept (fun k => k < V.heap.size) V X → Calls Tryz.prog 22 #[.pointer (some ⟨p, 0, none⟩), .int .i64 (j : Int), .agg #[.bool sr, .slice la rn rc]] X fun e w' => e = .returned (.string ⟨(outX (innF q M R F j) (M.nd j) (rawU M j)).toArray⟩) ∧ Kept (fun k => k < X.heap.size) X w') := fun X j F h3 h4 h6 => by
    obtain ⟨o, ho, hoa⟩ := OPT.out X (HKV.out.trans (h6.mono fun k h => Nat.lt_of_lt_of_le h HKV.out.size))
    have r := sOuter_gen HI.out hMle h3 F h4 X (HXV.out.kept h6) o
    rw [ho, hoa, hq] at r
    exact r
  have INN : Hid (∀ (X : World) (j F : Nat), j < M.n → dn M.n rk j < F → Kept (fun k => k < V.heap.size) V X → Calls Tryz.prog 20 #[.pointer (some ⟨p, 0, none⟩), .int .i64 (j : Int), .agg #[.bool sr, .slice la rn rc]] X fun e w' => e = .returned (.string ⟨(innF q M R F j).toArray⟩) ∧ Kept (fun k => k < X.heap.size) X w') := fun X j F h3 h4 h6 => by
    obtain ⟨o, ho, hoa⟩ := OPT.out X (HKV.out.trans (h6.mono fun k h => Nat.lt_of_lt_of_le h HKV.out.size))
    have r := sInner_gen HI.out hMle h3 F h4 X (HXV.out.kept h6) o
    rw [ho, hoa, hq] at r
    exact r
  obtain ⟨F, hF⟩ : ∃ F, dn M.n rk i + 1 = F := ⟨_, rfl⟩
  obtain ⟨LI, hLI⟩ : ∃ L, innF q M R (F + 1) i = L := ⟨_, rfl⟩
  obtain ⟨LO, hLO⟩ : ∃ L, outX (innF q M R (F + 1) i) (M.nd i) (rawU M i) = L := ⟨_, rfl⟩
  have lenI := (inn_len (o := q) HI.out hMle (F + 1) HIN.out (rawU M i)).1
  have lenO := (inn_len (o := q) HI.out hMle (F + 1) HIN.out (rawU M i)).2
  rw [hLI] at lenI
  rw [hLO] at lenO
  have rI := INN.out V i (F + 1) HIN.out (by omega) (Kept.refl _ _)
  rw [hLI] at rI
  have RO : Hid (∀ X, Kept (fun k => k < V.heap.size) V X → Calls Tryz.prog 22 #[.pointer (some ⟨p, 0, none⟩), .int .i64 (i : Int), .agg #[.bool sr, .slice la rn rc]] X fun e w' => e = .returned (.string ⟨LO.toArray⟩) ∧ Kept (fun k => k < X.heap.size) X w') := fun X hX => by
    have r := OUT.out X i (F + 1) HIN.out (by omega) hX
    rw [hLO] at r
    exact r
  obtain ⟨-, -, obV⟩ := OC.out V HKV.out
  have HLI : Hid (innF q M R (F + 1) i = LI) := hLI
  have HLO : Hid (outX LI x (rawU M i) = LO) := by rw [← hLI, ← HXX.out]; exact hLO
  have HFF : Hid (dn M.n rk i + 1 = F) := hF
  clear hLI hLO hF hMle hq o0 o1
  go_wp2_with (refine wpList_load_row rfl 41 _ rfl NB rfl 41 #[.bool sr, .slice la rn rc] (0, 0) _ obV Tryz.underlying41 rfl (sizeO _ rfl) ?_)
  refine rI.mono ?_
  rintro e X1 ⟨rfl, hX1⟩
  have hW1 : Kept (fun k => k < W0.heap.size) W0 X1 := HKV.out.trans (hX1.mono fun k h => Nat.lt_of_lt_of_le h HKV.out.size)
  obtain ⟨-, -, ob1⟩ := OC.out X1 hW1
  have r1 := RO.out X1 hX1
  have HX1 : Hid (Kept (fun k => k < V.heap.size) V X1) := hX1
  clear rI hX1 hW1 obV RO c0
  go_wp2_with (refine wpList_load_row rfl 41 _ rfl NB rfl 41 #[.bool sr, .slice la rn rc] (0, 0) _ ob1 Tryz.underlying41 rfl (sizeO _ rfl) ?_)
  refine r1.mono ?_
  rintro e X2 ⟨rfl, hX2⟩
  have hV2 : Kept (fun k => k < V.heap.size) V X2 := HX1.out.trans (hX2.mono fun k h => Nat.lt_of_lt_of_le h HX1.out.size)
  have HV2 : Hid (Kept (fun k => k < V.heap.size) V X2) := hV2
  have ND : Hid (∀ X, Kept (fun k => k < V.heap.size) V X → ∀ t, X.cell? ⟨N, t, none⟩ = (nW x ao1 ac1 up1 ko1 ln1 kc1)[t]?) := fun X hX t => (hX.cell (p := ⟨N, t, none⟩) HNL.out.2).trans (NC.out t)
  have c0 : X2.cell? ⟨N, 0, none⟩ = some (.int .u8 (kd : Int)) := (ND.out X2 hV2 0).trans (by show some (Value.int .u8 (x.kind : Int)) = _; rw [HKD.out])
  have HF2 : Hid (∀ X, Kept (fun k => k < V.heap.size) V X → Kept (fun k => k < w.heap.size) w X) := fun X hX => HKB.out.trans ((HKV.out.trans (hX.mono fun k h => Nat.lt_of_lt_of_le h HKV.out.size)).mono fun k h => Nat.lt_of_lt_of_le h HKB.out.size)
  clear r1 hX2 hV2 ob1 HX1
  by_cases k4 : kd = 4
  · subst k4
    have h4 : (M.nd i).kind = 4 := by rw [HXX.out]; exact HKD.out
    have hfr := inn_frag (o := q) HI.out HIN.out h4 F
    rw [HLI.out] at hfr
    have hlo : LO = LI := by
      rw [← HLO.out]
      unfold outX
      rw [HKD.out]
      rfl
    subst hlo
    have HFR : Hid (LO = (R i).flatMap fun k => outX (innF q M R F k) (M.nd k) (rawU M k)) := hfr
    obtain ⟨I, hI⟩ : ∃ I : ByteArray, ⟨LO.toArray⟩ = I := ⟨_, rfl⟩
    have HII : Hid ((⟨LO.toArray⟩ : ByteArray) = I) := hI
    rw [hI]
    have hln300 : ln1 ≤ 300 := by
      have h1 := nodup_le M.n (R i) (HI.out.good.wf.nodup i HIN.out) (fun k hk => (HI.out.good.kid HIN.out hk).1)
      rw [HLN1.out, HM.out] at h1
      omega
    have KID : Hid (∀ k ∈ R i, k < M.n ∧ dn M.n rk k < F) := fun k hk => by
      have h1 := HI.out.good.kid HIN.out hk
      have h2 := dn_lt (rk := rk) h1.1 h1.2.2
      rw [← HFF.out]
      exact ⟨h1.1, by omega⟩
    have LEN : Hid (LO.length ≤ 1000000000000) := lenI
    clear hfr h4 hI lenI lenO
    obtain ⟨OX, hOX⟩ : ∃ OX : Nat → List UInt8, (fun k => outX (innF q M R F k) (M.nd k) (rawU M k)) = OX := ⟨_, rfl⟩
    rw [hOX] at HFR
    have HOX : Hid ((fun k => outX (innF q M R F k) (M.nd k) (rawU M k)) = OX) := hOX
    clear hOX
    go_upto_region 12 with fail
    go_wp2_with fail
    go_loopg [14, 15] ln1 (fun gm va vk wr => ∃ j : Nat, gm = ln1 - j ∧ j ≤ ln1 ∧ vk = .int .i64 j ∧ va = .string ⟨(((R i).take j).flatMap OX).toArray⟩ ∧ Kept (fun k => k < V.heap.size) V wr)
    case atStart => exact ⟨0, rfl, Nat.zero_le _, rfl, rfl, HV2.out⟩
    case round =>
      obtain ⟨j, hg, hj, rfl, rfl, hK⟩ := hrel
      have c5 : wr.cell? ⟨N, 5, none⟩ = some (.slice ko1 ln1 kc1) := ND.out wr hK 5
      by_cases hlt : j < ln1
      · have hjl : j < (R i).length := by rw [HLN1.out]; exact hlt
        obtain ⟨g, oo, hko, hKg, hc⟩ := HQI.out j hjl
        subst hko
        have hkm := KID.out (R i)[j] (List.getElem_mem hjl)
        have estep : ((R i).take (j + 1)).flatMap OX = ((R i).take j).flatMap OX ++ OX (R i)[j] := by rw [List.take_succ_eq_append_getElem hjl, List.flatMap_append, List.flatMap_singleton]
        have hle : (((R i).take (j + 1)).flatMap OX).length ≤ 1000000000000 := by
          have e : (R i).flatMap OX = ((R i).take (j + 1)).flatMap OX ++ ((R i).drop (j + 1)).flatMap OX := by rw [← List.flatMap_append, List.take_append_drop]
          have h1 := LEN.out
          rw [HFR.out, e, List.length_append] at h1
          omega
        obtain ⟨k, hk⟩ : ∃ k, (R i)[j] = k := ⟨_, rfl⟩
        rw [hk] at hc hkm estep
        have HC : Hid (∀ Y, Kept (fun k => k < V.heap.size) V Y → Y.cell? ⟨g, oo + j, none⟩ = some (.int .i64 (k : Int))) := fun Y hY => (hY.cell (p := ⟨g, oo + j, none⟩) hKg).trans hc
        have HC5 : Hid (∀ Y, Kept (fun k => k < V.heap.size) V Y → Y.cell? ⟨N, 5, none⟩ = some (.slice (some ⟨g, oo, none⟩) ln1 kc1)) := fun Y hY => ND.out Y hY 5
        have HOB : Hid (∀ Y, Kept (fun k => k < V.heap.size) V Y → Y.heap[NB]? = some (.cells #[.bool sr, .slice la rn rc] 41 (0, 0))) := fun Y hY => (OC.out Y (HKV.out.trans (hY.mono fun k h => Nat.lt_of_lt_of_le h HKV.out.size))).2.2
        have RK : Hid (∀ X, Kept (fun k => k < V.heap.size) V X → Calls Tryz.prog 22 #[.pointer (some ⟨p, 0, none⟩), .int .i64 (k : Int), .agg #[.bool sr, .slice la rn rc]] X fun e w' => e = .returned (.string ⟨(OX k).toArray⟩) ∧ Kept (fun k => k < X.heap.size) X w') := fun X hX => by
          rw [← HOX.out]
          exact OUT.out X k F hkm.1 hkm.2 hX
        obtain ⟨A, hA⟩ : ∃ A : ByteArray, ⟨(((R i).take j).flatMap OX).toArray⟩ = A := ⟨_, rfl⟩
        obtain ⟨B, hB⟩ : ∃ B : ByteArray, ⟨(OX k).toArray⟩ = B := ⟨_, rfl⟩
        have hAB : A ++ B = ⟨(((R i).take (j + 1)).flatMap OX).toArray⟩ := by
          rw [← hA, ← hB, estep]
          apply ByteArray.ext
          rw [ByteArray.data_append]
          simp
        have hsz : A.size + B.size ≤ 1000000000000 := by
          have h1 : A.size = (((R i).take j).flatMap OX).length := by rw [← hA]; rfl
          have h2 : B.size = (OX k).length := by rw [← hB]; rfl
          rw [estep, List.length_append] at hle
          omega
        have HAB : Hid (A ++ B = ⟨(((R i).take (j + 1)).flatMap OX).toArray⟩) := hAB
        rw [hA]
        rw [hB] at RK
        have HKK : Hid (Kept (fun k => k < V.heap.size) V wr) := hK
        clear hc hkm estep hle hk hA hB hAB hK hKg
        go_wp2_with fail
        refine wp_region_held_drew (S := fun Y => Kept (fun k => k < V.heap.size) V Y) (by kernel_rfl) (HKK.out.drew) (fun hHeld => ?_)
        refine tkH 0 66 (.string A) rfl rfl (by kernel_rfl) (by rfl) (by intro Y hY; go_simp; try with_reducible rfl) (fun _ _ _ h => h) hHeld ?_
        try simp only [Act.put, List.setIfInBounds_toArray, List.set_cons_zero, List.set_cons_succ]
        refine tkH 1 67 (.pointer (some ⟨p, 0, none⟩)) rfl rfl (by kernel_rfl) (by rfl) (by intro Y hY; go_simp; try with_reducible rfl) (fun _ _ _ h => h) hHeld ?_
        try simp only [Act.put, List.setIfInBounds_toArray, List.set_cons_zero, List.set_cons_succ]
        refine tkH 2 68 (.pointer (some ⟨N, 5, none⟩)) rfl rfl (by kernel_rfl) (by rfl) (by intro Y hY; go_simp; try with_reducible rfl) (fun _ _ _ h => h) hHeld ?_
        try simp only [Act.put, List.setIfInBounds_toArray, List.set_cons_zero, List.set_cons_succ]
        refine tkH 3 69 (.slice (some ⟨g, oo, none⟩) ln1 kc1) rfl rfl (by kernel_rfl) (by rfl) (by intro Y hY; have hc := HC5.out Y hY; go_simp; try with_reducible rfl) (fun _ _ _ h => h) hHeld ?_
        try simp only [Act.put, List.setIfInBounds_toArray, List.set_cons_zero, List.set_cons_succ]
        refine tkH 4 70 (.int .i64 (j : Int)) rfl rfl (by kernel_rfl) (by rfl) (by intro Y hY; go_simp; try with_reducible rfl) (fun _ _ _ h => h) hHeld ?_
        try simp only [Act.put, List.setIfInBounds_toArray, List.set_cons_zero, List.set_cons_succ]
        refine tkH 5 71 (.pointer (some ⟨g, oo + j, none⟩)) rfl rfl (by kernel_rfl) (by rfl) (by intro Y hY; go_simp; try with_reducible rfl) (fun _ _ _ h => h) hHeld ?_
        try simp only [Act.put, List.setIfInBounds_toArray, List.set_cons_zero, List.set_cons_succ]
        refine tkH 6 72 (.int .i64 (k : Int)) rfl rfl (by kernel_rfl) (by rfl) (by intro Y hY; have hc := HC.out Y hY; go_simp; try with_reducible rfl) (fun _ _ _ h => h) hHeld ?_
        try simp only [Act.put, List.setIfInBounds_toArray, List.set_cons_zero, List.set_cons_succ]
        refine tkH 7 73 (.agg #[.bool sr, .slice la rn rc]) rfl rfl (by kernel_rfl) (by rfl) (by intro Y hY; exact yieldsOo rfl rfl (HOB.out Y hY) rfl) (fun _ _ _ h => h) hHeld ?_
        try simp only [Act.put, List.setIfInBounds_toArray, List.set_cons_zero, List.set_cons_succ]
        refine clH 8 74 22 #[.pointer (some ⟨p, 0, none⟩), .int .i64 (k : Int), .agg #[.bool sr, .slice la rn rc]] rfl rfl (by kernel_rfl) (by rfl) rfl (by first | rfl | (simp [Act.eval]; done) | (simp [Act.eval, Act.put]; done)) (enterSO _ _) (RK.out _ hHeld) ?_
        rintro e Y1 ⟨rfl, hk9⟩
        refine ⟨_, rfl, hHeld.trans (hk9.mono fun k h => Nat.lt_of_lt_of_le h hHeld.size), fun hHeld2 => ?_⟩
        replace hHeld := hHeld2
        clear hHeld2 hk9
        try simp only [Act.put, List.setIfInBounds_toArray, List.set_cons_zero, List.set_cons_succ]
        refine tkH 9 75 (.string (A ++ B)) rfl rfl (by kernel_rfl) (by rfl) (by intro Y hY; go_simp; first | with_reducible rfl | omega) (fun _ _ _ h => h) hHeld ?_
        try simp only [Act.put, List.setIfInBounds_toArray, List.set_cons_zero, List.set_cons_succ]
        refine tkH 10 14 (.string (A ++ B)) rfl rfl (by kernel_rfl) (by rfl) (by intro Y hY; go_simp; try with_reducible rfl) (fun _ _ _ h => h) hHeld ?_
        try simp only [Act.put, List.setIfInBounds_toArray, List.set_cons_zero, List.set_cons_succ]
        refine wpAnyH_done (by kernel_rfl) ?_ _
        have HKY : Hid (Kept (fun k => k < V.heap.size) V Y1) := hHeld
        clear hHeld HKK HC HC5 HOB RK c5
        go_wp2
        go_roundg (ln1 - (j + 1))
        case rel => exact ⟨j + 1, rfl, by omega, by go_num, by rw [HAB.out], HKY.out⟩
        case measure => omega
      · have hjn : j = ln1 := by omega
        have et : (R i).take j = R i := by rw [hjn, ← HLN1.out, List.take_length]
        rw [et, ← HFR.out, HII.out]
        have HK : Hid (Kept (fun k => k < w.heap.size) w wr) := HF2.out wr hK
        clear hK et hjn
        go_wp2
        go_ret
        exact ⟨by first | rfl | (simp; done), HK.out⟩
  · have e4 : ((kd : Int) == 4) = false := by simp; omega
    by_cases k1 : kd = 1
    · subst k1
      have h1 : (M.nd i).kind = 1 := by rw [HXX.out]; exact HKD.out
      have hval := (HI.out.core.el i HIN.out h1).1
      rw [HXX.out] at hval
      have hnl : x.name.length ≤ 60 := by
        unfold validP at hval
        simp only [Bool.and_eq_true, decide_eq_true_eq] at hval
        exact hval.1.2
      have hnm := (HI.out.ex.okd i HIN.out).2 h1
      rw [HXX.out] at hnm
      obtain ⟨NM, hNM⟩ : ∃ b : ByteArray, ⟨x.name.toArray⟩ = b := ⟨_, rfl⟩
      have hNMl : NM.toList = x.name := by rw [← hNM, ByteArray.toList_eq]
      have hNMs : NM.size ≤ 60 := by rw [← hNM]; exact hnl
      have c1 : X2.cell? ⟨N, 1, none⟩ = some (.string NM) := (ND.out X2 HV2.out 1).trans (by show some (Value.string ⟨x.name.toArray⟩) = _; rw [hNM])
      have HK : Hid (Kept (fun k => k < w.heap.size) w X2) := HF2.out X2 HV2.out
      by_cases hbr : x.name = [98, 114]
      · have hb : (NM.toList == [98, 114]) = true := by rw [hNMl, hbr]; rfl
        clear k4 hval hnm hnl hNM hNMl hbr lenI lenO h1
        go_wp2
        go_ret
        exact ⟨rfl, HK.out⟩
      · have hb : (NM.toList == [98, 114]) = false := by rw [hNMl]; simpa using hbr
        have hvo := names_void x.name hnm hbr
        have hlo : LO = staL x.name x.attrs ++ (LI ++ endL x.name) := by
          rw [← HLO.out]
          unfold outX
          rw [if_pos HKD.out, if_neg (by rw [hvo]; decide)]
        obtain ⟨I, hI⟩ : ∃ b : ByteArray, ⟨LI.toArray⟩ = b := ⟨_, rfl⟩
        obtain ⟨O, hO⟩ : ∃ b : ByteArray, ⟨LO.toArray⟩ = b := ⟨_, rfl⟩
        have hIl : I.toList = LI := by rw [← hI, ByteArray.toList_eq]
        have hOl : O.toList = LO := by rw [← hO, ByteArray.toList_eq]
        have hIs : I.size ≤ 1000000000000 := by rw [← hI]; exact lenI
        have hOs : O.size ≤ 1000000000000 := by rw [← hO]; exact lenO
        obtain ⟨EN, hEN⟩ : ∃ b : ByteArray, ((I ++ ⟨#[60, 47]⟩) ++ NM) ++ ⟨#[62]⟩ = b := ⟨_, rfl⟩
        have hENl : EN.toList = LI ++ endL x.name := by
          rw [← hEN, ← hIl, ← hNMl]
          simp only [ByteArray.toList_eq, ByteArray.data_append, Array.toList_append]
          unfold endL
          simp
        have lO : O.toList.length = O.size := by rw [ByteArray.toList_eq]; rfl
        have lE : EN.toList.length = EN.size := by rw [ByteArray.toList_eq]; rfl
        have lN : NM.toList.length = NM.size := by rw [ByteArray.toList_eq]; rfl
        have hst : (staL x.name x.attrs).length = x.name.length + 2 + (atsL x.attrs).length := by unfold staL; simp; omega
        have hlen : O.size = (staL x.name x.attrs).length + EN.size := by rw [← lO, ← lE, hOl, hENl, hlo, List.length_append]
        have kE : ((O.extract (O.size - EN.size) O.size).toList == EN.toList) = true := by
          rw [beq_iff_eq, ByteArray.toList_eq, extract_list, ← ByteArray.toList_eq, hOl, List.take_of_length_le (by rw [← lO, hOl]; exact Nat.le_refl _), hENl, hlo]
          have e : O.size - EN.size = (staL x.name x.attrs).length := by omega
          rw [e, List.drop_left]
        have kS : ((O.extract 0 (1 + NM.size)).toList == ((⟨#[60]⟩ : ByteArray) ++ NM).toList) = true := by
          rw [beq_iff_eq, ByteArray.toList_eq, extract_list, ← ByteArray.toList_eq, hOl, List.drop_zero, ByteArray.toList_eq, ByteArray.data_append, Array.toList_append, ← ByteArray.toList_eq (bs := NM), hNMl, hlo]
          unfold staL
          have e : 1 + NM.size = ([60] ++ x.name).length := by rw [← lN, hNMl]; simp; omega
          rw [e, List.append_assoc, List.take_left]
        have hxn : x.name.length = NM.size := by rw [← hNMl]; exact lN
        have hgt : decide ((O.size : Int) > (EN.size : Int)) = true := decide_eq_true (by omega)
        obtain ⟨nO, hnO⟩ : ∃ n, O.size = n := ⟨_, rfl⟩
        obtain ⟨nE, hnE⟩ : ∃ n, EN.size = n := ⟨_, rfl⟩
        obtain ⟨nN, hnN⟩ : ∃ n, NM.size = n := ⟨_, rfl⟩
        obtain ⟨nd, hnd⟩ : ∃ n, nO - nE = n := ⟨_, rfl⟩
        have hsub : (nO : Int) - (nE : Int) = (nd : Int) := by omega
        rw [hnO, hnE, hnd] at kE
        rw [hnN] at kS
        rw [hnO, hnE] at hgt
        rw [hI, hO]
        have HEN : Hid (((I ++ ⟨#[60, 47]⟩) ++ NM) ++ ⟨#[62]⟩ = EN) := hEN
        have hdO : nd ≤ nO := by omega
        have hNO : 1 + nN ≤ nO := by omega
        have hbO : nO ≤ 1000000000000 := by omega
        have hbE : nE ≤ 1000000000000 := by omega
        have hbN : nN ≤ 60 := by omega
        clear k4 hval hnm hnl hNM hNMl hbr lenI lenO h1 hvo hlo hI hO hIl hOl hENl lO lE lN hst hlen hEN hxn
        go_upto_region 19 with fail
        rw [HEN.out]
        clear HEN
        obtain ⟨n1, hn1⟩ : ∃ n, 1 + nN = n := ⟨_, rfl⟩
        have hn1' : (1 : Int) + (nN : Int) = (n1 : Int) := by omega
        have hgt2 : nE < nO := by have := of_decide_eq_true hgt; omega
        have hw1 : IntKind.i64.wrap (nd : Int) = (nd : Int) := IntWalk.i64_in _ (by omega)
        have hw2 : IntKind.i64.wrap (n1 : Int) = (n1 : Int) := IntWalk.i64_in _ (by omega)
        rw [hn1] at kS hNO
        have HC1 : Hid (∀ Y, Kept (fun k => k < X2.heap.size) X2 Y → Y.cell? ⟨N, 1, none⟩ = some (.string NM)) := fun Y hY => (hY.cell (p := ⟨N, 1, none⟩) (Nat.lt_of_lt_of_le HNL.out.2 HV2.out.size)).trans c1
        refine wp_region_held_drew (S := fun Y => Kept (fun k => k < X2.heap.size) X2 Y) (by kernel_rfl) ((Kept.refl _ X2).drew) (fun hHeld => ?_)
        refine tkH 0 98 (.string O) rfl rfl (by kernel_rfl) (by rfl) (by intro Y hY; go_simp; try with_reducible rfl) (fun _ _ _ h => h) hHeld ?_
        try simp only [Act.put, List.setIfInBounds_toArray, List.set_cons_zero, List.set_cons_succ]
        refine tkH 1 99 (.int .i64 (nO : Int)) rfl rfl (by kernel_rfl) (by rfl) (by intro Y hY; go_simp; try with_reducible rfl) (fun _ _ _ h => h) hHeld ?_
        try simp only [Act.put, List.setIfInBounds_toArray, List.set_cons_zero, List.set_cons_succ]
        refine tkH 2 100 (.string EN) rfl rfl (by kernel_rfl) (by rfl) (by intro Y hY; go_simp; try with_reducible rfl) (fun _ _ _ h => h) hHeld ?_
        try simp only [Act.put, List.setIfInBounds_toArray, List.set_cons_zero, List.set_cons_succ]
        refine tkH 3 101 (.int .i64 (nE : Int)) rfl rfl (by kernel_rfl) (by rfl) (by intro Y hY; go_simp; try with_reducible rfl) (fun _ _ _ h => h) hHeld ?_
        try simp only [Act.put, List.setIfInBounds_toArray, List.set_cons_zero, List.set_cons_succ]
        refine tkH 4 102 (.bool true) rfl rfl (by kernel_rfl) (by rfl) (by intro Y hY; go_simp; try with_reducible rfl) (fun _ _ _ h => h) hHeld ?_
        try simp only [Act.put, List.setIfInBounds_toArray, List.set_cons_zero, List.set_cons_succ]
        refine tkH 5 103 (.bool true) rfl rfl (by kernel_rfl) (by rfl) (by intro Y hY; go_simp; try with_reducible rfl) (fun _ _ _ h => h) hHeld ?_
        try simp only [Act.put, List.setIfInBounds_toArray, List.set_cons_zero, List.set_cons_succ]
        refine tkH 6 104 (.string O) rfl rfl (by kernel_rfl) (by rfl) (by intro Y hY; go_simp; try with_reducible rfl) (fun _ _ _ h => h) hHeld ?_
        try simp only [Act.put, List.setIfInBounds_toArray, List.set_cons_zero, List.set_cons_succ]
        refine tkH 7 105 (.string O) rfl rfl (by kernel_rfl) (by rfl) (by intro Y hY; go_simp; try with_reducible rfl) (fun _ _ _ h => h) hHeld ?_
        try simp only [Act.put, List.setIfInBounds_toArray, List.set_cons_zero, List.set_cons_succ]
        refine tkH 8 106 (.int .i64 (nO : Int)) rfl rfl (by kernel_rfl) (by rfl) (by intro Y hY; go_simp; try with_reducible rfl) (fun _ _ _ h => h) hHeld ?_
        try simp only [Act.put, List.setIfInBounds_toArray, List.set_cons_zero, List.set_cons_succ]
        refine tkH 9 107 (.string EN) rfl rfl (by kernel_rfl) (by rfl) (by intro Y hY; go_simp; try with_reducible rfl) (fun _ _ _ h => h) hHeld ?_
        try simp only [Act.put, List.setIfInBounds_toArray, List.set_cons_zero, List.set_cons_succ]
        refine tkH 10 108 (.int .i64 (nE : Int)) rfl rfl (by kernel_rfl) (by rfl) (by intro Y hY; go_simp; try with_reducible rfl) (fun _ _ _ h => h) hHeld ?_
        try simp only [Act.put, List.setIfInBounds_toArray, List.set_cons_zero, List.set_cons_succ]
        refine tkH 11 109 (.int .i64 (nd : Int)) rfl rfl (by kernel_rfl) (by rfl) (by intro Y hY; go_simp; try with_reducible rfl) (fun _ _ _ h => h) hHeld ?_
        try simp only [Act.put, List.setIfInBounds_toArray, List.set_cons_zero, List.set_cons_succ]
        refine tkH 12 110 (.string (O.extract nd nO)) rfl rfl (by kernel_rfl) (by rfl) (by intro Y hY; go_simp; try (first | with_reducible rfl | omega | trace_state)) (fun _ _ _ h => h) hHeld ?_
        try simp only [Act.put, List.setIfInBounds_toArray, List.set_cons_zero, List.set_cons_succ]
        refine tkH 13 111 (.string EN) rfl rfl (by kernel_rfl) (by rfl) (by intro Y hY; go_simp; try with_reducible rfl) (fun _ _ _ h => h) hHeld ?_
        try simp only [Act.put, List.setIfInBounds_toArray, List.set_cons_zero, List.set_cons_succ]
        refine tkH 14 112 (.bool true) rfl rfl (by kernel_rfl) (by rfl) (by intro Y hY; go_simp; try with_reducible rfl) (fun _ _ _ h => h) hHeld ?_
        try simp only [Act.put, List.setIfInBounds_toArray, List.set_cons_zero, List.set_cons_succ]
        refine tkH 15 113 (.bool true) rfl rfl (by kernel_rfl) (by rfl) (by intro Y hY; go_simp; try with_reducible rfl) (fun _ _ _ h => h) hHeld ?_
        try simp only [Act.put, List.setIfInBounds_toArray, List.set_cons_zero, List.set_cons_succ]
        refine tkH 16 114 (.bool true) rfl rfl (by kernel_rfl) (by rfl) (by intro Y hY; go_simp; try with_reducible rfl) (fun _ _ _ h => h) hHeld ?_
        try simp only [Act.put, List.setIfInBounds_toArray, List.set_cons_zero, List.set_cons_succ]
        refine tkH 17 115 (.string O) rfl rfl (by kernel_rfl) (by rfl) (by intro Y hY; go_simp; try with_reducible rfl) (fun _ _ _ h => h) hHeld ?_
        try simp only [Act.put, List.setIfInBounds_toArray, List.set_cons_zero, List.set_cons_succ]
        refine tkH 18 116 (.pointer (some ⟨N, 1, none⟩)) rfl rfl (by kernel_rfl) (by rfl) (by intro Y hY; go_simp; try with_reducible rfl) (fun _ _ _ h => h) hHeld ?_
        try simp only [Act.put, List.setIfInBounds_toArray, List.set_cons_zero, List.set_cons_succ]
        refine tkH 19 117 (.string NM) rfl rfl (by kernel_rfl) (by rfl) (by intro Y hY; have hc := HC1.out Y hY; go_simp; try with_reducible rfl) (fun _ _ _ h => h) hHeld ?_
        try simp only [Act.put, List.setIfInBounds_toArray, List.set_cons_zero, List.set_cons_succ]
        refine tkH 20 118 (.int .i64 (nN : Int)) rfl rfl (by kernel_rfl) (by rfl) (by intro Y hY; go_simp; try with_reducible rfl) (fun _ _ _ h => h) hHeld ?_
        try simp only [Act.put, List.setIfInBounds_toArray, List.set_cons_zero, List.set_cons_succ]
        refine tkH 21 119 (.int .i64 (n1 : Int)) rfl rfl (by kernel_rfl) (by rfl) (by intro Y hY; go_simp; try with_reducible rfl) (fun _ _ _ h => h) hHeld ?_
        try simp only [Act.put, List.setIfInBounds_toArray, List.set_cons_zero, List.set_cons_succ]
        refine tkH 22 120 (.string (O.extract 0 n1)) rfl rfl (by kernel_rfl) (by rfl) (by intro Y hY; go_simp; try (first | with_reducible rfl | omega | trace_state)) (fun _ _ _ h => h) hHeld ?_
        try simp only [Act.put, List.setIfInBounds_toArray, List.set_cons_zero, List.set_cons_succ]
        refine tkH 23 121 (.pointer (some ⟨N, 1, none⟩)) rfl rfl (by kernel_rfl) (by rfl) (by intro Y hY; go_simp; try with_reducible rfl) (fun _ _ _ h => h) hHeld ?_
        try simp only [Act.put, List.setIfInBounds_toArray, List.set_cons_zero, List.set_cons_succ]
        refine tkH 24 122 (.string NM) rfl rfl (by kernel_rfl) (by rfl) (by intro Y hY; have hc := HC1.out Y hY; go_simp; try with_reducible rfl) (fun _ _ _ h => h) hHeld ?_
        try simp only [Act.put, List.setIfInBounds_toArray, List.set_cons_zero, List.set_cons_succ]
        refine tkH 25 123 (.string ((⟨#[60]⟩ : ByteArray) ++ NM)) rfl rfl (by kernel_rfl) (by rfl) (by intro Y hY; go_simp; first | done | with_reducible rfl | omega) (fun _ _ _ h => h) hHeld ?_
        try simp only [Act.put, List.setIfInBounds_toArray, List.set_cons_zero, List.set_cons_succ]
        refine tkH 26 124 (.bool true) rfl rfl (by kernel_rfl) (by rfl) (by intro Y hY; go_simp; try with_reducible rfl) (fun _ _ _ h => h) hHeld ?_
        try simp only [Act.put, List.setIfInBounds_toArray, List.set_cons_zero, List.set_cons_succ]
        refine tkH 27 125 (.bool true) rfl rfl (by kernel_rfl) (by rfl) (by intro Y hY; go_simp; try with_reducible rfl) (fun _ _ _ h => h) hHeld ?_
        try simp only [Act.put, List.setIfInBounds_toArray, List.set_cons_zero, List.set_cons_succ]
        refine tkH 28 6 (.bool true) rfl rfl (by kernel_rfl) (by rfl) (by intro Y hY; go_simp; try with_reducible rfl) (fun _ _ _ h => h) hHeld ?_
        try simp only [Act.put, List.setIfInBounds_toArray, List.set_cons_zero, List.set_cons_succ]
        refine wpAnyH_done (by kernel_rfl) ?_ _
        have HKD2 : Hid (Kept (fun k => k < w.heap.size) w X2.drew) := HK.out.drew
        clear hHeld HC1
        go_wp2
        go_ret
        exact ⟨rfl, HKD2.out⟩
    · have e1 : ((kd : Int) == 1) = false := by simp; omega
      have HK : Hid (Kept (fun k => k < w.heap.size) w X2) := HF2.out X2 HV2.out
      clear k4 k1
      go_wp2
      go_ret
      exact ⟨rfl, HK.out⟩
end Go.Proofs.YteccdijjpmeeaaaGreat
