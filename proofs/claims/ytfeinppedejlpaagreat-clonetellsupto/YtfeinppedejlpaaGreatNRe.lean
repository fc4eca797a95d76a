/-
  The document's own Clone: how many nodes a copy takes.
-/
import Derived.Test.YtfeinppedejlpaaGreatNCz
namespace Go.Proofs.YtfeinppedejlpaaGreat
open Go.RowKit Go.Sort
set_option linter.unusedVariables false
set_option maxRecDepth 100000
set_option maxHeartbeats 8000000
structure RAt (M : Dm) (R : Nat -> List Nat) (r g nc i : Nat) (aa : Option Addr) (ac : Nat) (ka : Option Addr) (kc N : Nat) (Y : World) : Prop where
 c1 : Y.cell? ⟨r, 1, none⟩ = some (.slice (some ⟨g, 0, none⟩) M.n nc)
 c : ∀ f u, (za1 M R i aa ac ka kc)[f]? = some u -> Y.cell? ⟨g, i * 14 + f, none⟩ = some u
 ats : Zag (fun q => q < N) Y aa (M.nd i).attrs
 kid : Zan (fun q => q < N) Y ka (R i)
theorem RX.at14 {K : Nat -> Prop} {w : World} {r : Nat} {M : Dm} {R G : Nat -> List Nat} (h : RX K TT w r M R G) : ∃ g nc, ∀ i, i < M.n -> ∃ aa ac ka kc, (M.nd i).attrs.length <= ac /\ ∀ Y, Kept (fun k => k < w.heap.size) w Y -> RAt M R r g nc i aa ac ka kc w.heap.size Y := by
 obtain ⟨A, h⟩ := h
 by_cases h0 : 0 < M.n
 ·obtain ⟨g, hg, -, -, -⟩ := h.nat h0
  refine ⟨g, A.nc, fun i hi => ⟨A.aa i, A.ac i, A.ka i, A.kc i, h.acl i hi, fun Y hY => ?_⟩⟩
  have h' := h.kept hY
  exact ⟨by rw [h'.c1, hg], fun f u hf => h'.cell hg hi f u hf, (h.ats i hi).to (fun q hq => hq.1) (fun q hq => hY.block q hq.1), (h.kid i hi).to (fun q hq => hq.1) (fun q hq => hY.block q hq.1)⟩
 ·exact ⟨0, 0, fun i hi => absurd hi (by omega)⟩
theorem zob {M : Dm} {R : Nat -> List Nat} {g nc r u : Nat} {aa ka : Option Addr} {ac kc : Nat} {w : World} (hA : ∀ Y, Kept (fun k => k < w.heap.size) w Y -> RAt M R r g nc u aa ac ka kc w.heap.size Y) (hu : u < M.n) (hn : M.n <= 100000) (nf : Nat -> Nat) (hN : needs nf (R u) <= 100000) (hl : (R u).length <= 100000)
  (ih : ∀ k ∈ R u, ∀ Y, Kept (fun k => k < w.heap.size) w Y -> Calls Tryz.prog 118 #[.pointer (some ⟨r, 0, none⟩), .int .i64 (k : Int), .bool true] Y fun e w' => e = .returned (.int .i64 (nf k : Int)) /\ Kept (fun k => k < Y.heap.size) Y w') :
  ∀ X, Kept (fun k => k < w.heap.size) w X -> Calls Tryz.prog 191 #[.pointer (some ⟨r, 0, none⟩), .int .i64 (u : Int)] X fun e w' => e = .returned (.int .i64 (needs nf (R u) : Int)) /\ Kept (fun k => k < X.heap.size) X w' := by
 intro X hX
 obtain ⟨m, hm⟩ : ∃ m, M.n = m := ⟨_, rfl⟩
 obtain ⟨kl, hkl⟩ : ∃ kl, (R u).length = kl := ⟨_, rfl⟩
 obtain ⟨q, hq⟩ : ∃ q, needs nf (R u) = q := ⟨_, rfl⟩
 have HA : Hid _ := hA
 have IH : Hid _ := ih
 have HM : Hid (M.n = m) := hm
 have HKL : Hid ((R u).length = kl) := hkl
 have HQ : Hid (needs nf (R u) = q) := hq
 have HX : Hid (Kept (fun k => k < w.heap.size) w X) := hX
 have hum : u < m := by omega
 have hm1 : m <= 100000 := by omega
 have hq1 : q <= 100000 := by omega
 have hk1 : kl <= 100000 := by omega
 rw [hq]
 clear hA ih hm hkl hq hX hu hn hN hl
 go_enter Tryz.func191, Tryz.ntmps191
 go_upto_region 3 with fail
 go_loopg [5, 6] kl (fun gh v5 v6 wr => ∃ (j s : Nat), gh = kl - j /\ j <= kl /\ v6 = .int .i64 (j : Int) /\ v5 = .int .i64 (s : Int) /\ s = needs nf ((R u).take j) /\ Kept (fun k => k < X.heap.size) X wr)
 case atStart => exact ⟨0, 0, rfl, Nat.zero_le _, rfl, rfl, rfl, Kept.refl _ _⟩
 case round =>
  obtain ⟨j, s, hgj, hj, rfl, rfl, hs, hK⟩ := hrel
  have hKw : Kept (fun k => k < w.heap.size) w wr := kt HX.out hK
  have hA := HA.out wr hKw
  have c1 := hA.c1
  have c5 : wr.cell? ⟨g, u * 14 + 5, none⟩ = some (.slice ka (R u).length kc) := hA.c 5 _ rfl
  rw [HM.out] at c1
  rw [HKL.out] at c5
  have HK : Hid (Kept (fun k => k < X.heap.size) X wr) := hK
  have hsq : s <= q := by rw [hs, <- HQ.out]; exact zbq nf (R u) j
  by_cases hlt : j < kl
  ·have hjR : j < (R u).length := by rw [HKL.out]; exact hlt
   obtain ⟨b, o, hka, -, d⟩ := hA.kid j hjR
   have rx := IH.out _ (List.getElem_mem hjR) wr hKw
   have hnx := zc9 nf (R u) j hjR
   have hnl := zbq nf (R u) (j + 1)
   obtain ⟨x, hx⟩ : ∃ x, (R u)[j] = x := ⟨_, rfl⟩
   obtain ⟨nx, hnxE⟩ : ∃ n, nf x = n := ⟨_, rfl⟩
   rw [hx] at d rx hnx
   rw [hnxE] at rx hnx
   rw [HQ.out] at hnl
   rw [hka] at c5
   have HS : Hid (s + nx = needs nf ((R u).take (j + 1))) := by rw [hnx, hs]; exact rfl
   have hb : s + nx <= 100000 := by have := HS.out; omega
   clear hA hka hx hnxE hnx hnl hs hK hKw hjR
   go_wp2_with fail
   refine rx.mono ?_
   rintro e Y ⟨rfl, hY⟩
   have HY : Hid (Kept (fun k => k < X.heap.size) X Y) := kt HK.out hY
   clear rx hY c1 c5 d
   go_wp2
   go_roundg (kl - (j + 1))
   case rel => exact ⟨j + 1, s + nx, rfl, by omega, by go_num, by go_num, HS.out, HY.out⟩
   case measure => omega
  ·have hjk : j = kl := by omega
   have HE : Hid (s = q) := by
    have : (R u).take j = R u := by rw [hjk, <- HKL.out, List.take_length]
    rw [hs, this]; exact HQ.out
   clear hA hs hK hKw hjk
   go_wp2
   go_ret
   exact ⟨by rw [HE.out]; rfl, HK.out⟩
theorem zm5 (M : Dm) (R : Nat -> List Nat) (r g nc i m : Nat) (aa ka : Option Addr) (ac kc : Nat) (w : World) (hA : RAt M R r g nc i aa ac ka kc w.heap.size w) (hm : M.n = m) (him : i < m) (hm1 : m <= 100000) (deep : Bool) (sh co zS zC zI tot : Int) (fe : Bool) (hsh : (M.nd i).shadow = sh) (hco : (M.nd i).content = co) (bS : 0 <= zS /\ zS <= 100000) (bC : 0 <= zC /\ zC <= 100000) (bI : 0 <= zI /\ zI <= 100000)
  (hq : sh = -1 \/ ∃ q : Nat, q < m /\ sh = (q : Int) /\ w.cell? ⟨g, q * 14 + 13, none⟩ = some (.bool fe)) (hc : co = -1 \/ 0 <= co) (hgl : r < w.heap.size /\ g < w.heap.size)
  (hS : 0 <= sh -> fe = true -> ∀ X, Kept (fun k => k < w.heap.size) w X -> Calls Tryz.prog 191 #[.pointer (some ⟨r, 0, none⟩), .int .i64 sh] X fun e w' => e = .returned (.int .i64 zS) /\ Kept (fun k => k < X.heap.size) X w')
  (hC : 0 <= co -> ∀ X, Kept (fun k => k < w.heap.size) w X -> Calls Tryz.prog 191 #[.pointer (some ⟨r, 0, none⟩), .int .i64 co] X fun e w' => e = .returned (.int .i64 zC) /\ Kept (fun k => k < X.heap.size) X w')
  (hI : ∀ X, Kept (fun k => k < w.heap.size) w X -> Calls Tryz.prog 191 #[.pointer (some ⟨r, 0, none⟩), .int .i64 (i : Int)] X fun e w' => e = .returned (.int .i64 zI) /\ Kept (fun k => k < X.heap.size) X w')
  (ht : tot = 1 + (if co = -1 then 0 else 1) + (if sh ≠ -1 /\ fe = true then 1 + zS else 0) + (if deep = true then (if co = -1 then 0 else zC) + zI else 0)) :
  Calls Tryz.prog 118 #[.pointer (some ⟨r, 0, none⟩), .int .i64 (i : Int), .bool deep] w fun e w' => e = .returned (.int .i64 tot) /\ Kept (fun k => k < w.heap.size) w w' := by
 obtain ⟨V, N, hV, hN, hb, hkV, hsV⟩ := zaz w (nV (M.nd i) aa ac (M.pl i).up ka (R i).length kc)  58
 have e1 := hA.c1
 rw [hm] at e1
 have d := hA.c
 have d0 : w.cell? ⟨g, i * 14, none⟩ = _ := d 0 _ rfl
 have d1 : w.cell? ⟨g, i * 14 + 1, none⟩ = _ := d 1 _ rfl
 have d2 : w.cell? ⟨g, i * 14 + 2, none⟩ = _ := d 2 _ rfl
 have d3 : w.cell? ⟨g, i * 14 + 3, none⟩ = _ := d 3 _ rfl
 have d4 : w.cell? ⟨g, i * 14 + 4, none⟩ = _ := d 4 _ rfl
 have d5 : w.cell? ⟨g, i * 14 + 5, none⟩ = _ := d 5 _ rfl
 have d6 : w.cell? ⟨g, i * 14 + 6, none⟩ = _ := d 6 _ rfl
 have d7 : w.cell? ⟨g, i * 14 + 7, none⟩ = _ := d 7 _ rfl
 have d8 : w.cell? ⟨g, i * 14 + 8, none⟩ = _ := d 8 _ rfl
 have d9 : w.cell? ⟨g, i * 14 + 9, none⟩ = _ := d 9 _ rfl
 have d10 : w.cell? ⟨g, i * 14 + 10, none⟩ = _ := d 10 _ rfl
 have d11 : w.cell? ⟨g, i * 14 + 11, none⟩ = _ := d 11 _ rfl
 have d12 : w.cell? ⟨g, i * 14 + 12, none⟩ = _ := d 12 _ rfl
 have d13 : w.cell? ⟨g, i * 14 + 13, none⟩ = _ := d 13 _ rfl
 have HV : Hid (w.alloc (.cells (nV (M.nd i) aa ac (M.pl i).up ka (R i).length kc) 58) = V) := hV
 have HN : Hid (w.heap.size = N) := hN
 have HKV : Hid (Kept (fun k => k < w.heap.size) w V) := hkV
 have HNL : Hid (N < V.heap.size) := zad hb
 have v6 : V.cell? ⟨N, 6, none⟩ = some (.int .i64 sh) := by rw [zaa hb, <- hsh]; rfl
 have v8 : V.cell? ⟨N, 8, none⟩ = some (.int .i64 co) := by rw [zaa hb, <- hco]; rfl
 have f1 : V.cell? ⟨r, 1, none⟩ = some (.slice (some ⟨g, 0, none⟩) m nc) := (hkV.cell (p := ⟨r, 1, none⟩) hgl.1).trans e1
 have HS : Hid _ := hS
 have HC : Hid _ := hC
 have HI : Hid _ := hI
 clear hS hC hI d hV hN hb hsV hA hm hsh hco
 rcases hq with rfl | ⟨q, hqm, rfl, hfe⟩
 ·have hsn : decide ((-1 : Int) >= 0) = false := by decide
  clear hkV hgl f1
  rcases hc with rfl | hc
  ·cases deep with
   | false =>
    have HT : Hid (tot = 1 + 0 + 0 + 0) := by
     rw [ht]
     rw [if_pos rfl]
     rw [if_neg (fun h => h.1 rfl)]
     rw [if_neg (by decide)]; exact rfl
    clear ht
    go_enter Tryz.func118, Tryz.ntmps118
    go_upto_region 2 with fail
    rw [HV.out, HN.out]
    clear HV HN d0 d1 d2 d3 d4 d5 d6 d7 d8 d9 d10 d11 d12 d13 e1
    go_upto_region 5 with fail
    go_big_quiet (fail)
    have hVd : Kept (fun k => k < w.heap.size) w (V.drewN nq) := HKV.out.drewN nq
    go_wp2
    go_ret
    exact ⟨by rw [HT.out]; first | rfl | exact congrArg (fun z => Ending.returned (Value.int .i64 z)) (by omega), hVd⟩
   | true =>
    have HT : Hid (tot = 1 + 0 + 0 + (0 + zI)) := by
     rw [ht]
     rw [if_pos rfl]
     rw [if_neg (fun h => h.1 rfl)]
     rw [if_pos rfl]; first | exact rfl | (rw [if_neg hcn]; exact rfl)
    clear ht
    go_enter Tryz.func118, Tryz.ntmps118
    go_upto_region 2 with fail
    rw [HV.out, HN.out]
    clear HV HN d0 d1 d2 d3 d4 d5 d6 d7 d8 d9 d10 d11 d12 d13 e1
    go_upto_region 5 with fail
    go_big_quiet (fail)
    have hVd : Kept (fun k => k < w.heap.size) w (V.drewN nq) := HKV.out.drewN nq
    have y8 : (V.drewN nq).cell? ⟨N, 8, none⟩ = some (.int .i64 (-1)) := v8
    go_wp2_with fail
    refine (HI.out _ hVd).mono ?_
    rintro e U ⟨rfl, hU⟩
    have HU : Hid (Kept (fun k => k < w.heap.size) w U) := kt hVd hU
    clear hU
    go_wp2
    go_ret
    exact ⟨by rw [HT.out]; first | rfl | exact congrArg (fun z => Ending.returned (Value.int .i64 z)) (by omega), HU.out⟩
  ·have hc0 : decide (co >= 0) = true := decide_eq_true hc
   have hcn : co ≠ -1 := by omega
   cases deep with
   | false =>
    have HT : Hid (tot = 1 + 1 + 0 + 0) := by
     rw [ht]
     rw [if_neg hcn]
     rw [if_neg (fun h => h.1 rfl)]
     rw [if_neg (by decide)]; exact rfl
    clear ht
    clear hcn
    go_enter Tryz.func118, Tryz.ntmps118
    go_upto_region 2 with fail
    rw [HV.out, HN.out]
    clear HV HN d0 d1 d2 d3 d4 d5 d6 d7 d8 d9 d10 d11 d12 d13 e1
    go_upto_region 5 with fail
    go_big_quiet (fail)
    have hVd : Kept (fun k => k < w.heap.size) w (V.drewN nq) := HKV.out.drewN nq
    go_wp2
    go_ret
    exact ⟨by rw [HT.out]; first | rfl | exact congrArg (fun z => Ending.returned (Value.int .i64 z)) (by omega), hVd⟩
   | true =>
    have HT : Hid (tot = 1 + 1 + 0 + (zC + zI)) := by
     rw [ht]
     rw [if_neg hcn]
     rw [if_neg (fun h => h.1 rfl)]
     rw [if_pos rfl]; first | exact rfl | (rw [if_neg hcn]; exact rfl)
    clear ht
    clear hcn
    go_enter Tryz.func118, Tryz.ntmps118
    go_upto_region 2 with fail
    rw [HV.out, HN.out]
    clear HV HN d0 d1 d2 d3 d4 d5 d6 d7 d8 d9 d10 d11 d12 d13 e1
    go_upto_region 5 with fail
    go_big_quiet (fail)
    have hVd : Kept (fun k => k < w.heap.size) w (V.drewN nq) := HKV.out.drewN nq
    have y8 : (V.drewN nq).cell? ⟨N, 8, none⟩ = some (.int .i64 co) := v8
    go_wp2_with fail
    refine (HC.out (by omega) _ hVd).mono ?_
    rintro e Z ⟨rfl, hZ⟩
    have HZ : Hid (Kept (fun k => k < w.heap.size) w Z) := kt hVd hZ
    clear hZ y8
    go_wp2_with fail
    refine (HI.out _ HZ.out).mono ?_
    rintro e U ⟨rfl, hU⟩
    have HU : Hid (Kept (fun k => k < w.heap.size) w U) := kt HZ.out hU
    clear hU
    go_wp2
    go_ret
    exact ⟨by rw [HT.out]; first | rfl | exact congrArg (fun z => Ending.returned (Value.int .i64 z)) (by omega), HU.out⟩
 ·have f13 : V.cell? ⟨g, q * 14 + 13, none⟩ = some (.bool fe) := (hkV.cell (p := ⟨g, q * 14 + 13, none⟩) hgl.2).trans hfe
  have HF1 : Hid (∀ Y, Kept (fun k => k < V.heap.size) V Y -> Y.cell? ⟨r, 1, none⟩ = some (.slice (some ⟨g, 0, none⟩) m nc)) := fun Y hY => (hY.cell (p := ⟨r, 1, none⟩) (ltl hgl.1 hkV.size)).trans f1
  have HF13 : Hid (∀ Y, Kept (fun k => k < V.heap.size) V Y -> Y.cell? ⟨g, q * 14 + 13, none⟩ = some (.bool fe)) := fun Y hY => (hY.cell (p := ⟨g, q * 14 + 13, none⟩) (ltl hgl.2 hkV.size)).trans f13
  clear hfe hkV hgl f13 f1
  have hsq : decide ((q : Int) >= 0) = true := decide_eq_true (by omega)
  have w1 := HF1.out V (Kept.refl _ _)
  have w13 := HF13.out V (Kept.refl _ _)
  cases fe with
  | false =>
   rcases hc with rfl | hc
   ·cases deep with
    | false =>
     have HT : Hid (tot = 1 + 0 + 0 + 0) := by
      rw [ht]
      rw [if_pos rfl]
      rw [if_neg (fun h => by cases h.2)]
      rw [if_neg (by decide)]; exact rfl
     clear ht
     go_enter Tryz.func118, Tryz.ntmps118
     go_upto_region 2 with fail
     rw [HV.out, HN.out]
     clear HV HN d0 d1 d2 d3 d4 d5 d6 d7 d8 d9 d10 d11 d12 d13 e1
     go_upto_region 5 with fail
     go_big_quiet (fail)
     have hVd : Kept (fun k => k < w.heap.size) w (V.drewN nq) := HKV.out.drewN nq
     go_wp2
     go_ret
     exact ⟨by rw [HT.out]; first | rfl | exact congrArg (fun z => Ending.returned (Value.int .i64 z)) (by omega), hVd⟩
    | true =>
     have HT : Hid (tot = 1 + 0 + 0 + (0 + zI)) := by
      rw [ht]
      rw [if_pos rfl]
      rw [if_neg (fun h => by cases h.2)]
      rw [if_pos rfl]; first | exact rfl | (rw [if_neg hcn]; exact rfl)
     clear ht
     go_enter Tryz.func118, Tryz.ntmps118
     go_upto_region 2 with fail
     rw [HV.out, HN.out]
     clear HV HN d0 d1 d2 d3 d4 d5 d6 d7 d8 d9 d10 d11 d12 d13 e1
     go_upto_region 5 with fail
     go_big_quiet (fail)
     have hVd : Kept (fun k => k < w.heap.size) w (V.drewN nq) := HKV.out.drewN nq
     have y8 : (V.drewN nq).cell? ⟨N, 8, none⟩ = some (.int .i64 (-1)) := v8
     go_wp2_with fail
     refine (HI.out _ hVd).mono ?_
     rintro e U ⟨rfl, hU⟩
     have HU : Hid (Kept (fun k => k < w.heap.size) w U) := kt hVd hU
     clear hU
     go_wp2
     go_ret
     exact ⟨by rw [HT.out]; first | rfl | exact congrArg (fun z => Ending.returned (Value.int .i64 z)) (by omega), HU.out⟩
   ·have hc0 : decide (co >= 0) = true := decide_eq_true hc
    have hcn : co ≠ -1 := by omega
    cases deep with
    | false =>
     have HT : Hid (tot = 1 + 1 + 0 + 0) := by
      rw [ht]
      rw [if_neg hcn]
      rw [if_neg (fun h => by cases h.2)]
      rw [if_neg (by decide)]; exact rfl
     clear ht
     clear hcn
     go_enter Tryz.func118, Tryz.ntmps118
     go_upto_region 2 with fail
     rw [HV.out, HN.out]
     clear HV HN d0 d1 d2 d3 d4 d5 d6 d7 d8 d9 d10 d11 d12 d13 e1
     go_upto_region 5 with fail
     go_big_quiet (fail)
     have hVd : Kept (fun k => k < w.heap.size) w (V.drewN nq) := HKV.out.drewN nq
     go_wp2
     go_ret
     exact ⟨by rw [HT.out]; first | rfl | exact congrArg (fun z => Ending.returned (Value.int .i64 z)) (by omega), hVd⟩
    | true =>
     have HT : Hid (tot = 1 + 1 + 0 + (zC + zI)) := by
      rw [ht]
      rw [if_neg hcn]
      rw [if_neg (fun h => by cases h.2)]
      rw [if_pos rfl]; first | exact rfl | (rw [if_neg hcn]; exact rfl)
     clear ht
     clear hcn
     go_enter Tryz.func118, Tryz.ntmps118
     go_upto_region 2 with fail
     rw [HV.out, HN.out]
     clear HV HN d0 d1 d2 d3 d4 d5 d6 d7 d8 d9 d10 d11 d12 d13 e1
     go_upto_region 5 with fail
     go_big_quiet (fail)
     have hVd : Kept (fun k => k < w.heap.size) w (V.drewN nq) := HKV.out.drewN nq
     have y8 : (V.drewN nq).cell? ⟨N, 8, none⟩ = some (.int .i64 co) := v8
     go_wp2_with fail
     refine (HC.out (by omega) _ hVd).mono ?_
     rintro e Z ⟨rfl, hZ⟩
     have HZ : Hid (Kept (fun k => k < w.heap.size) w Z) := kt hVd hZ
     clear hZ y8
     go_wp2_with fail
     refine (HI.out _ HZ.out).mono ?_
     rintro e U ⟨rfl, hU⟩
     have HU : Hid (Kept (fun k => k < w.heap.size) w U) := kt HZ.out hU
     clear hU
     go_wp2
     go_ret
     exact ⟨by rw [HT.out]; first | rfl | exact congrArg (fun z => Ending.returned (Value.int .i64 z)) (by omega), HU.out⟩
  | true =>
   rcases hc with rfl | hc
   ·cases deep with
    | false =>
     have HT : Hid (tot = 1 + 0 + (1 + zS) + 0) := by
      rw [ht]
      rw [if_pos rfl]
      rw [if_pos ⟨by omega, rfl⟩]
      rw [if_neg (by decide)]; exact rfl
     clear ht
     go_enter Tryz.func118, Tryz.ntmps118
     go_upto_region 2 with fail
     rw [HV.out, HN.out]
     clear HV HN d0 d1 d2 d3 d4 d5 d6 d7 d8 d9 d10 d11 d12 d13 e1
     go_upto_region 5 with fail
     go_big_quiet (fail)
     have hVd : Kept (fun k => k < w.heap.size) w (V.drewN nq) := HKV.out.drewN nq
     have v6d : (V.drewN nq).cell? ⟨N, 6, none⟩ = some (.int .i64 (q : Int)) := v6
     go_wp2_with fail
     refine (HS.out (by omega) (by first | trivial | rfl) _ hVd).mono ?_
     rintro e Y ⟨rfl, hY⟩
     have HY : Hid (Kept (fun k => k < w.heap.size) w Y) := hVd.trans (hY.mono fun k h => ltl h HKV.out.size)
     clear v6 v6d v8
     go_wp2
     go_ret
     exact ⟨by rw [HT.out]; first | rfl | exact congrArg (fun z => Ending.returned (Value.int .i64 z)) (by omega), HY.out⟩
    | true =>
     have HT : Hid (tot = 1 + 0 + (1 + zS) + (0 + zI)) := by
      rw [ht]
      rw [if_pos rfl]
      rw [if_pos ⟨by omega, rfl⟩]
      rw [if_pos rfl]; first | exact rfl | (rw [if_neg hcn]; exact rfl)
     clear ht
     go_enter Tryz.func118, Tryz.ntmps118
     go_upto_region 2 with fail
     rw [HV.out, HN.out]
     clear HV HN d0 d1 d2 d3 d4 d5 d6 d7 d8 d9 d10 d11 d12 d13 e1
     go_upto_region 5 with fail
     go_big_quiet (fail)
     have hVd : Kept (fun k => k < w.heap.size) w (V.drewN nq) := HKV.out.drewN nq
     have v6d : (V.drewN nq).cell? ⟨N, 6, none⟩ = some (.int .i64 (q : Int)) := v6
     go_wp2_with fail
     refine (HS.out (by omega) (by first | trivial | rfl) _ hVd).mono ?_
     rintro e Y ⟨rfl, hY⟩
     have HY : Hid (Kept (fun k => k < w.heap.size) w Y) := hVd.trans (hY.mono fun k h => ltl h HKV.out.size)
     have y8 : Y.cell? ⟨N, 8, none⟩ = some (.int .i64 (-1)) := (hY.cell (p := ⟨N, 8, none⟩) HNL.out).trans v8
     clear v6 v6d v8
     go_wp2_with fail
     refine (HI.out _ HY.out).mono ?_
     rintro e U ⟨rfl, hU⟩
     have HU : Hid (Kept (fun k => k < w.heap.size) w U) := kt HY.out hU
     clear hU
     go_wp2
     go_ret
     exact ⟨by rw [HT.out]; first | rfl | exact congrArg (fun z => Ending.returned (Value.int .i64 z)) (by omega), HU.out⟩
   ·have hc0 : decide (co >= 0) = true := decide_eq_true hc
    have hcn : co ≠ -1 := by omega
    cases deep with
    | false =>
     have HT : Hid (tot = 1 + 1 + (1 + zS) + 0) := by
      rw [ht]
      rw [if_neg hcn]
      rw [if_pos ⟨by omega, rfl⟩]
      rw [if_neg (by decide)]; exact rfl
     clear ht
     clear hcn
     go_enter Tryz.func118, Tryz.ntmps118
     go_upto_region 2 with fail
     rw [HV.out, HN.out]
     clear HV HN d0 d1 d2 d3 d4 d5 d6 d7 d8 d9 d10 d11 d12 d13 e1
     go_upto_region 5 with fail
     go_big_quiet (fail)
     have hVd : Kept (fun k => k < w.heap.size) w (V.drewN nq) := HKV.out.drewN nq
     have v6d : (V.drewN nq).cell? ⟨N, 6, none⟩ = some (.int .i64 (q : Int)) := v6
     go_wp2_with fail
     refine (HS.out (by omega) (by first | trivial | rfl) _ hVd).mono ?_
     rintro e Y ⟨rfl, hY⟩
     have HY : Hid (Kept (fun k => k < w.heap.size) w Y) := hVd.trans (hY.mono fun k h => ltl h HKV.out.size)
     clear v6 v6d v8
     go_wp2
     go_ret
     exact ⟨by rw [HT.out]; first | rfl | exact congrArg (fun z => Ending.returned (Value.int .i64 z)) (by omega), HY.out⟩
    | true =>
     have HT : Hid (tot = 1 + 1 + (1 + zS) + (zC + zI)) := by
      rw [ht]
      rw [if_neg hcn]
      rw [if_pos ⟨by omega, rfl⟩]
      rw [if_pos rfl]; first | exact rfl | (rw [if_neg hcn]; exact rfl)
     clear ht
     clear hcn
     go_enter Tryz.func118, Tryz.ntmps118
     go_upto_region 2 with fail
     rw [HV.out, HN.out]
     clear HV HN d0 d1 d2 d3 d4 d5 d6 d7 d8 d9 d10 d11 d12 d13 e1
     go_upto_region 5 with fail
     go_big_quiet (fail)
     have hVd : Kept (fun k => k < w.heap.size) w (V.drewN nq) := HKV.out.drewN nq
     have v6d : (V.drewN nq).cell? ⟨N, 6, none⟩ = some (.int .i64 (q : Int)) := v6
     go_wp2_with fail
     refine (HS.out (by omega) (by first | trivial | rfl) _ hVd).mono ?_
     rintro e Y ⟨rfl, hY⟩
     have HY : Hid (Kept (fun k => k < w.heap.size) w Y) := hVd.trans (hY.mono fun k h => ltl h HKV.out.size)
     have y8 : Y.cell? ⟨N, 8, none⟩ = some (.int .i64 co) := (hY.cell (p := ⟨N, 8, none⟩) HNL.out).trans v8
     clear v6 v6d v8
     go_wp2_with fail
     refine (HC.out (by omega) _ HY.out).mono ?_
     rintro e Z ⟨rfl, hZ⟩
     have HZ : Hid (Kept (fun k => k < w.heap.size) w Z) := kt HY.out hZ
     clear hZ y8
     go_wp2_with fail
     refine (HI.out _ HZ.out).mono ?_
     rintro e U ⟨rfl, hU⟩
     have HU : Hid (Kept (fun k => k < w.heap.size) w U) := kt HZ.out hU
     clear hU
     go_wp2
     go_ret
     exact ⟨by rw [HT.out]; first | rfl | exact congrArg (fun z => Ending.returned (Value.int .i64 z)) (by omega), HU.out⟩
theorem zh5 {K : Nat -> Prop} {w : World} {r : Nat} {M : Dm} {R G : Nat -> List Nat} {rk : Nat -> Nat} (h : RX K TT w r M R G) (hI : Inv M R G rk) (hn : M.n <= 100000) : ∀ (f i : Nat), dn M.n rk i < f -> i < M.n -> ∀ (deep : Bool) X, Kept (fun k => k < w.heap.size) w X ->
  Calls Tryz.prog 118 #[.pointer (some ⟨r, 0, none⟩), .int .i64 (i : Int), .bool deep] X fun e w' => e = .returned (.int .i64 (zba M R f i deep : Int)) /\ Kept (fun k => k < X.heap.size) X w'
 | 0, i, hf, _, _, _, _ => absurd hf (Nat.not_lt_zero _)
 | f + 1, i, hf, hi, deep, X, hX => by
  have hRX := h.kept hX
  obtain ⟨g, nc, hat⟩ := hRX.at14
  have hgl : r < X.heap.size /\ g < X.heap.size := by
   obtain ⟨aa, ac, ka, kc, -, hA⟩ := hat i hi
   have hA := hA X (Kept.refl _ _)
   exact ⟨World.block_lt_of_cell? X _ hA.c1, World.block_lt_of_cell? X _ (hA.c 0 _ rfl)⟩
  have all : ∀ u, u < M.n -> (u = i \/ rk i < rk u) -> ∀ Y, Kept (fun k => k < X.heap.size) X Y -> Calls Tryz.prog 191 #[.pointer (some ⟨r, 0, none⟩), .int .i64 (u : Int)] Y fun e w' => e = .returned (.int .i64 (needs (fun k => zba M R f k true) (R u) : Int)) /\ Kept (fun k => k < Y.heap.size) Y w' := by
   intro u hu hr
   obtain ⟨aa, ac, ka, kc, -, hA⟩ := hat u hu
   refine zob hA hu hn _ (Nat.le_trans (ze9 _ fun k hk => zgt hI f k (hI.good.kid hu hk).1) ?_) (Nat.le_trans (hI.good.wf.len_le hu) hn) fun k hk Y hY => ?_
   ·have h1 := zmd hI.onlyC hu
    rw [zh2 hI.onlyC.falls hu, List.length_cons] at h1
    have : ((R u).flatMap (tr M.n (fwc M R))).length <= ((fwc M R u).flatMap (tr M.n (fwc M R))).length := by
     unfold fwc
     rw [List.flatMap_append, List.flatMap_append, List.length_append, List.length_append]
     exact Nat.le_trans (Nat.le_add_left _ _) (Nat.le_add_left _ _)
    omega
   ·obtain ⟨h1, -, h3⟩ := hI.good.kid hu hk
    have hrk : rk i < rk k := by rcases hr with rfl | hr <;> omega
    exact zh5 h hI hn f k (by have := zfy h1 hrk; omega) h1 true Y (kt hX hY)
  have hb : ∀ u, u < M.n -> needs (fun k => zba M R f k true) (R u) <= 100000 := fun u hu => by
   have h1 := zmd hI.onlyC hu
   have h2 : needs (fun k => zba M R f k true) (R u) <= ((R u).flatMap (tr M.n (fwc M R))).length := ze9 _ fun k hk => zgt hI f k (hI.good.kid hu hk).1
   rw [zh2 hI.onlyC.falls hu, List.length_cons] at h1
   have : ((R u).flatMap (tr M.n (fwc M R))).length <= ((fwc M R u).flatMap (tr M.n (fwc M R))).length := by
    unfold fwc
    rw [List.flatMap_append, List.flatMap_append, List.length_append, List.length_append]
    exact Nat.le_trans (Nat.le_add_left _ _) (Nat.le_add_left _ _)
   omega
  obtain ⟨aa, ac, ka, kc, -, hA⟩ := hat i hi
  obtain ⟨nf, hnf⟩ : ∃ nf, (fun k => zba M R f k true) = nf := ⟨_, rfl⟩
  rw [hnf] at all hb
  have hD : zba M R (f + 1) i deep = zb8 M R nf i deep := by rw [<- hnf]; rfl
  rw [hD]
  have hbi := hb i hi
  have key : ∀ (sh co : Int) (zS zC : Nat) (fe : Bool), (M.nd i).shadow = sh -> (M.nd i).content = co -> zS <= 100000 -> zC <= 100000 -> (sh = -1 \/ ∃ q : Nat, q < M.n /\ sh = (q : Int) /\ X.cell? ⟨g, q * 14 + 13, none⟩ = some (.bool fe)) -> (co = -1 \/ 0 <= co) ->
    (0 <= sh -> fe = true -> ∀ Y, Kept (fun k => k < X.heap.size) X Y -> Calls Tryz.prog 191 #[.pointer (some ⟨r, 0, none⟩), .int .i64 sh] Y fun e w' => e = .returned (.int .i64 (zS : Int)) /\ Kept (fun k => k < Y.heap.size) Y w') ->
    (0 <= co -> ∀ Y, Kept (fun k => k < X.heap.size) X Y -> Calls Tryz.prog 191 #[.pointer (some ⟨r, 0, none⟩), .int .i64 co] Y fun e w' => e = .returned (.int .i64 (zC : Int)) /\ Kept (fun k => k < Y.heap.size) Y w') ->
    zb8 M R nf i deep = 1 + (if co = -1 then 0 else 1) + (if sh ≠ -1 /\ fe = true then 1 + zS else 0) + (if deep = true then (if co = -1 then 0 else zC) + needs nf (R i) else 0) ->
    Calls Tryz.prog 118 #[.pointer (some ⟨r, 0, none⟩), .int .i64 (i : Int), .bool deep] X fun e w' => e = .returned (.int .i64 (zb8 M R nf i deep : Int)) /\ Kept (fun k => k < X.heap.size) X w' := by
   intro sh co zS zC fe e1 e2 b1 b2 hq hc hS hC ht
   refine zm5 M R r g nc i M.n aa ka ac kc X (hA X (Kept.refl _ _)) rfl hi hn deep sh co zS zC (needs nf (R i)) _ fe e1 e2 ⟨by omega, by omega⟩ ⟨by omega, by omega⟩ ⟨by omega, by omega⟩ hq hc hgl hS hC (all i hi (.inl rfl)) ?_
   rw [ht]
   push_cast
   split <;> split <;> split <;> simp
  have hSe : zbh M R nf i = 1 + (if (M.nd i).content = -1 then 0 else 1) + (if clon M (M.nd i) = true then 1 + needs nf (R (M.nd i).shadow.toNat) else 0) := rfl
  have hDe : zb8 M R nf i deep = zbh M R nf i + (if deep = true then (if (M.nd i).content = -1 then 0 else needs nf (R (M.nd i).content.toNat)) + needs nf (R i) else 0) := by
   unfold zb8 za8
   cases deep
   ·rfl
   ·show _ + _ + _ = _ + (_ + _); omega
  have hcont : ∃ zC : Nat, zC <= 100000 /\ ((M.nd i).content = -1 \/ 0 <= (M.nd i).content) /\ (0 <= (M.nd i).content -> ∀ Y, Kept (fun k => k < X.heap.size) X Y -> Calls Tryz.prog 191 #[.pointer (some ⟨r, 0, none⟩), .int .i64 (M.nd i).content] Y fun e w' => e = .returned (.int .i64 (zC : Int)) /\ Kept (fun k => k < Y.heap.size) Y w') /\ ((M.nd i).content ≠ -1 -> needs nf (R (M.nd i).content.toNat) = zC) := by
   by_cases c : (M.nd i).content = -1
   ·exact ⟨0, by decide, .inl c, fun h => by omega, fun h => absurd c h⟩
   ·obtain ⟨q, hq, e, -, -, -, hr, -⟩ := hI.content hi c
    rw [e, Int.toNat_natCast]
    exact ⟨_, hb q hq, .inr (by omega), fun _ => all q hq (.inr hr), fun _ => rfl⟩
  obtain ⟨zC, bC, hc, hC, eC⟩ := hcont
  have fC : (if (M.nd i).content = -1 then 0 else needs nf (R (M.nd i).content.toNat)) = (if (M.nd i).content = -1 then 0 else zC) := by
   by_cases c : (M.nd i).content = -1
   ·rw [if_pos c, if_pos c]
   ·rw [if_neg c, if_neg c, eC c]
  by_cases c : (M.nd i).shadow = -1
  ·have hcl : clon M (M.nd i) = false := by unfold clon; rw [c]; rfl
   refine key _ _ 0 zC false rfl rfl (by decide) bC (.inl c) hc (fun h => by omega) hC ?_
   rw [hDe, hSe, hcl, fC, if_neg (show ¬ (false = true) by decide), if_neg (show ¬ ((M.nd i).shadow ≠ -1 /\ false = true) from fun h => h.1 c)]
  ·obtain ⟨q, e, hq, h5, -, -, hr⟩ := hI.shadowQ hi c
   have hcl : clon M (M.nd i) = (M.nd q).fl.e := by unfold clon; rw [e, Int.toNat_natCast, decide_eq_true (by omega), Bool.true_and]
   obtain ⟨aq, acq, kq, kcq, -, hAq⟩ := hat q hq
   have h13 := (hAq X (Kept.refl _ _)).c 13 (.bool (M.nd q).fl.e) rfl
   refine key _ _ (needs nf (R q)) zC (M.nd q).fl.e rfl rfl (hb q hq) bC (.inr ⟨q, hq, e, h13⟩) hc (fun _ _ => by rw [e]; exact all q hq (.inr hr)) hC ?_
   rw [hDe, hSe, hcl, fC, e, Int.toNat_natCast]
   congr 2
   cases (M.nd q).fl.e
   ·rw [if_neg (by decide), if_neg (fun h => by cases h.2)]
   ·rw [if_pos rfl, if_pos ⟨by omega, rfl⟩]
end Go.Proofs.YtfeinppedejlpaaGreat
