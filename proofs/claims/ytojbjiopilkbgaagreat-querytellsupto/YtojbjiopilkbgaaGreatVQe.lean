/-
  The document's own query.
-/
import Derived.Test.YtojbjiopilkbgaaGreatVRz
import Derived.Test.YtojbjiopilkbgaaGreatVQb
import Derived.Deep.DeepCutAuto
namespace Go.Proofs.YtojbjiopilkbgaaGreat
open Go.RowKit Go.Sort
set_option linter.unusedVariables false
set_option maxRecDepth 100000
set_option maxHeartbeats 8000000
theorem zl7 {p : Nat -> Bool} {T : List Nat} {j : Nat} (h1 : 1 <= j) (hj : j < T.length) : ((T.drop 1).take j).filter p = ((T.drop 1).take (j - 1)).filter p ++ (if p T[j] = true then [T[j]] else []) := by
 obtain ⟨m, rfl⟩ : ∃ m, j = m + 1 := ⟨j - 1, by omega⟩
 have hm : m < (T.drop 1).length := by rw [List.length_drop]; omega
 have e : (T.drop 1)[m] = T[m + 1] := by rw [List.getElem_drop]; congr 1; omega
 rw [Nat.add_sub_cancel, List.take_succ_eq_append_getElem hm, List.filter_append, e]
 by_cases c : p T[m + 1] = true
 ·rw [if_pos c, List.filter_cons_of_pos c]; rfl
 ·rw [if_neg c, List.filter_cons_of_neg c]; rfl
theorem zmk {p : Nat -> Bool} {T : List Nat} {j : Nat} (hj : j < T.length) : (T.take (j + 1)).filter p = (T.take j).filter p ++ (if p T[j] = true then [T[j]] else []) := by
 rw [List.take_succ_eq_append_getElem hj, List.filter_append]
 by_cases c : p T[j] = true
 ·rw [if_pos c, List.filter_cons_of_pos c]; rfl
 ·rw [if_neg c, List.filter_cons_of_neg c]; rfl
theorem zmo {n : Nat} {F : Nat -> List Nat} {rk : Nat -> Nat} (h : Only n F rk) (i : Int) : ∀ x ∈ trI n F i, x < n := fun x hx => by
 by_cases c : i < 0 \/ (n : Int) <= i
 ·rw [zee c] at hx; cases hx
 ·obtain ⟨k, hk, rfl⟩ : ∃ k : Nat, k < n /\ i = (k : Int) := ⟨i.toNat, by omega, by omega⟩
  rw [zdp hk] at hx
  exact zkx h.falls _ k hk x hx
theorem zgo (l : List Nat) (x : Nat) : ivs l ++ [.int .i64 (x : Int)] = ivs (l ++ [x]) := by rw [ivs, ivs, List.map_append]; rfl
section
variable {K : Nat -> Prop} {w : World} {r : Nat} {M : Dm} {R G : Nat -> List Nat} {rk : Nat -> Nat}
theorem zdv (h : RX K TT w r M R G) (hI : Inv M R G rk) (hn : M.n <= 100000) (z : Int) :
  Calls Tryz.prog 99 #[.pointer (some ⟨r, 0, none⟩), .int .i64 z] w (Lst w (zj0 M R z)) := by
 have rt := zh3 K r M R G rk w h hI hn z
 obtain ⟨g, nc, hE⟩ := h.at14
 have HE : Hid (∀ i, i < M.n -> ∀ Y, Kept (fun k => k < w.heap.size) w Y -> Y.cell? ⟨r, 1, none⟩ = some (.slice (some ⟨g, 0, none⟩) M.n nc) /\ Y.cell? ⟨g, i * 14, none⟩ = some (.int .u8 ((M.nd i).kind : Int))) := fun i hi Y hY => by
  obtain ⟨aa, ac, ka, kc, -, hA⟩ := hE i hi
  exact ⟨(hA Y hY).c1, (hA Y hY).c 0 _ rfl⟩
 have hlt := zmo hI.good.only z
 have hle := zdm hI.good.only z
 have hel : zj0 M R z = ((trI M.n R z).drop 1).filter fun x => elB (M.nd x) := rfl
 obtain ⟨T, hT⟩ : ∃ T, trI M.n R z = T := ⟨_, rfl⟩
 rw [hT] at rt hlt hle hel
 rw [hel]
 have HLT : Hid (∀ x ∈ T, x < M.n) := hlt
 obtain ⟨ln, hln⟩ : ∃ ln, T.length = ln := ⟨_, rfl⟩
 have HLN : Hid (T.length = ln) := hln
 rw [hln] at hle
 obtain ⟨m, hm⟩ : ∃ m, M.n = m := ⟨_, rfl⟩
 rw [hm] at HE HLT hn hle
 clear h hI hE hlt hT hel hm
 go_enter Tryz.func99, Tryz.ntmps99
 go_upto_region 3 with (go_at_call 104; refine rt.mono ?_; rintro e w1 ⟨ta, tc, rfl, hO, hk1⟩)
 have HR : Hid (Zah (fun q => q < w1.heap.size) w1 ta T) := hO.intsAt fun q hq => (hO.out hq).2
 have HK1 : Hid (Kept (fun k => k < w.heap.size) w w1) := hk1
 try rw [hln]
 clear rt hO hk1 hln
 go_upto_region 4 with fail
 go_loopg [5, 7] (ln - 1) (fun gh v5 v7 wr => ∃ (j q c : Nat) (ao : Option Addr), gh = ln - j /\ 1 <= j /\ (j <= ln \/ j = 1) /\ v7 = .int .i64 (j : Int) /\ v5 = .slice ao q c /\ (((T.drop 1).take (j - 1)).filter fun x => elB (M.nd x)).length = q /\ Zac (fun k => k < w1.heap.size) wr 3 1 ao q c (ivs (((T.drop 1).take (j - 1)).filter fun x => elB (M.nd x))) /\ Kept (fun k => k < w1.heap.size) w1 wr)
 case atStart => exact ⟨1, 0, 0, none, by rfl, Nat.le_refl _, .inr rfl, rfl, rfl, rfl, Zac.nil _ _ _ _, Kept.refl _ _⟩
 case round =>
  obtain ⟨j, q, c, ao, hgj, h1j, hj, rfl, rfl, hq, hO, hK⟩ := hrel
  have HKW : Hid (Kept (fun k => k < w.heap.size) w wr) := HK1.out.trans (hK.mono fun k h => ltl h HK1.out.size)
  by_cases hlt : j < ln
  ·have hjl : j < T.length := by rw [HLN.out]; exact hlt
   obtain ⟨g1, o, rfl, hg1, d⟩ := HR.out j hjl
   have hst := zl7 (p := fun x => elB (M.nd x)) h1j hjl
   have hxm := HLT.out _ (List.getElem_mem hjl)
   obtain ⟨x, hx⟩ : ∃ x, T[j] = x := ⟨_, rfl⟩
   rw [hx] at d hst hxm
   have d' : wr.cell? ⟨g1, o + j, none⟩ = some (.int .i64 (x : Int)) := (hK.cell (p := ⟨g1, o + j, none⟩) hg1).trans d
   obtain ⟨c1, c0⟩ := HE.out x hxm wr HKW.out
   have hql : q <= 100000 := by
    rw [<- hq]
    refine Nat.le_trans (List.length_filter_le ..) ?_
    rw [List.length_take, List.length_drop, HLN.out]
    omega
   have HST : Hid (((T.drop 1).take j).filter (fun x => elB (M.nd x)) = ((T.drop 1).take (j - 1)).filter (fun x => elB (M.nd x)) ++ (if elB (M.nd x) = true then [x] else [])) := hst
   have HO : Hid (Zac (fun k => k < w1.heap.size) wr 3 1 ao q c (ivs (((T.drop 1).take (j - 1)).filter fun x => elB (M.nd x)))) := hO
   have HK : Hid (Kept (fun k => k < w1.heap.size) w1 wr) := hK
   have HQ : Hid ((((T.drop 1).take (j - 1)).filter fun x => elB (M.nd x)).length = q) := hq
   have HD : Hid (∀ X, Kept (fun k => k < wr.heap.size) wr X -> X.cell? ⟨g1, o + j, none⟩ = some (.int .i64 (x : Int))) := fun X hX => (hX.cell (p := ⟨g1, o + j, none⟩) (ltl hg1 hK.size)).trans d'
   obtain ⟨kd, hkd⟩ : ∃ k, (M.nd x).kind = k := ⟨_, rfl⟩
   rw [hkd] at c0
   have HJ : Hid ((j <= ln \/ j = 1) /\ 1 <= j) := ⟨hj, h1j⟩
   have hEB : elB (M.nd x) = decide (kd = 1) := by unfold elB; rw [hkd] <;> rfl
   have HEB : Hid (elB (M.nd x) = decide (kd = 1)) := hEB
   clear hEB
   clear d hst hO hK hq hx hkd hj h1j hjl
   by_cases hk1 : kd = 1
   ·have e1 : ((kd : Int) == 1) = true := by rw [hk1]; rfl
    have hHB : ((T.drop 1).take j).filter (fun x => elB (M.nd x)) = ((T.drop 1).take (j - 1)).filter (fun x => elB (M.nd x)) ++ [x] := by rw [HST.out, HEB.out, decide_eq_true hk1] <;> rfl
    have HB : Hid (((T.drop 1).take j).filter (fun x => elB (M.nd x)) = ((T.drop 1).take (j - 1)).filter (fun x => elB (M.nd x)) ++ [x]) := hHB
    clear hHB
    clear hk1
    go_upto_region 6 with fail
    go_quiet (fail)
    obtain ⟨wq, hwq⟩ : ∃ X, wr.drewN nq = X := ⟨_, rfl⟩
    have kq : Kept (fun k => k < wr.heap.size) wr wq := by rw [<- hwq]; exact (Kept.refl _ wr).drewN nq
    rw [hwq]
    have dq := HD.out wq kq
    have hOq : Zac (fun k => k < w1.heap.size) wq 3 1 ao q c (ivs (((T.drop 1).take (j - 1)).filter fun x => elB (M.nd x))) := HO.out.to (fun g hg => (HO.out.out hg).1) (fun g hg => kq.block g (HO.out.out hg).2)
    have hKq : Kept (fun k => k < w1.heap.size) w1 wq := HK.out.trans (kq.mono fun k h => ltl h HK.out.size)
    obtain ⟨ao', c', w', hrun, hO', hK'⟩ := zk0 hOq (fun k hk => ltl hk hKq.size) (by omega) (x : Int)
    have HO' : Hid (Zac (fun k => k < w1.heap.size) w' 3 1 ao' (q + 1) c' (ivs (((T.drop 1).take j).filter fun x => elB (M.nd x))) /\ Kept (fun k => k < w1.heap.size) w1 w') := by
     rw [HB.out, <- zgo]; exact ⟨hO', hKq.trans hK'⟩
    clear hwq kq hOq hKq hO' hK' d' c1 c0
    go_wp2_with (at_builtin; refine zaj (w' := w') rfl (.tmp 29) (.tmp 34) 23 23 rfl _ _ (.slice ao' (q + 1) c') rfl rfl hrun ?_)
    go_roundg (ln - (j + 1))
    case rel => exact ⟨j + 1, q + 1, c', ao', rfl, by omega, by omega, by go_num, rfl, by rw [Nat.add_sub_cancel, HB.out, List.length_append, HQ.out]; rfl, HO'.out.1, HO'.out.2⟩
    case measure => omega
   ·have e1 : ((kd : Int) == 1) = false := by rw [beq_eq_false_iff_ne]; omega
    have hHB : ((T.drop 1).take j).filter (fun x => elB (M.nd x)) = ((T.drop 1).take (j - 1)).filter (fun x => elB (M.nd x)) := by rw [HST.out, HEB.out, decide_eq_false hk1] <;> exact List.append_nil _
    have HB : Hid (((T.drop 1).take j).filter (fun x => elB (M.nd x)) = ((T.drop 1).take (j - 1)).filter (fun x => elB (M.nd x))) := hHB
    clear hHB
    clear hk1
    go_upto_region 6 with fail
    go_quiet (fail)
    obtain ⟨wq, hwq⟩ : ∃ X, wr.drewN nq = X := ⟨_, rfl⟩
    have kq : Kept (fun k => k < wr.heap.size) wr wq := by rw [<- hwq]; exact (Kept.refl _ wr).drewN nq
    rw [hwq]
    have hOq : Zac (fun k => k < w1.heap.size) wq 3 1 ao q c (ivs (((T.drop 1).take (j - 1)).filter fun x => elB (M.nd x))) := HO.out.to (fun g hg => (HO.out.out hg).1) (fun g hg => kq.block g (HO.out.out hg).2)
    have hKq : Kept (fun k => k < w1.heap.size) w1 wq := HK.out.trans (kq.mono fun k h => ltl h HK.out.size)
    have HO' : Hid (Zac (fun k => k < w1.heap.size) wq 3 1 ao q c (ivs (((T.drop 1).take j).filter fun x => elB (M.nd x))) /\ Kept (fun k => k < w1.heap.size) w1 wq) := by
     rw [HB.out]; exact ⟨hOq, hKq⟩
    clear hwq kq hOq hKq d' c1 c0
    go_wp2
    go_roundg (ln - (j + 1))
    case rel => exact ⟨j + 1, q, c, ao, rfl, by omega, by omega, by go_num, rfl, by rw [Nat.add_sub_cancel, HB.out, HQ.out], HO'.out.1, HO'.out.2⟩
    case measure => omega
  ·have hall : (T.drop 1).take (j - 1) = T.drop 1 := List.take_of_length_le (by rw [List.length_drop, HLN.out]; omega)
   rw [hall] at hO hq
   have HO : Hid (Zac (fun k => k < w1.heap.size) wr 3 1 ao q c (ivs ((T.drop 1).filter fun x => elB (M.nd x)))) := hO
   have HQ : Hid (((T.drop 1).filter fun x => elB (M.nd x)).length = q) := hq
   clear hall hO hq hK
   go_wp2
   go_ret
   exact ⟨ao, c, by rw [HQ.out]; rfl, by rw [HQ.out]; exact HO.out.to (fun g hg hh => (HO.out.out hg).1 (ltl hh HK1.out.size)) (fun _ _ => rfl), HKW.out⟩
theorem zii (h : RX K TT w r M R G) (hI : Inv M R G rk) (hn : M.n <= 100000) (S : ByteArray) (z : Int) :
  Calls Tryz.prog 44 #[.pointer (some ⟨r, 0, none⟩), .int .i64 z, .string S] w (Lst w ((zj0 M R z).filter fun x => (S.toList == [42]) || decide ((M.nd x).name = S.toList))) := by
 have rt := zdv h hI hn z
 obtain ⟨g, nc, hE⟩ := h.at14
 have HE : Hid (∀ i, i < M.n -> ∀ Y, Kept (fun k => k < w.heap.size) w Y -> Y.cell? ⟨r, 1, none⟩ = some (.slice (some ⟨g, 0, none⟩) M.n nc) /\ Y.cell? ⟨g, i * 14 + 1, none⟩ = some (.string ⟨(M.nd i).name.toArray⟩)) := fun i hi Y hY => by
  obtain ⟨aa, ac, ka, kc, -, hA⟩ := hE i hi
  exact ⟨(hA Y hY).c1, (hA Y hY).c 1 (sv (M.nd i).name) rfl⟩
 have hlt : ∀ x ∈ zj0 M R z, x < M.n := fun x hx => zmo hI.good.only z x (List.mem_of_mem_drop (List.mem_filter.1 hx).1)
 have hle : (zj0 M R z).length <= M.n := Nat.le_trans (List.length_filter_le _ _) (Nat.le_trans (by rw [List.length_drop]; omega) (zdm hI.good.only z))
 obtain ⟨T, hT⟩ : ∃ T, zj0 M R z = T := ⟨_, rfl⟩
 rw [hT] at rt hlt hle ⊢
 have HLT : Hid (∀ x ∈ T, x < M.n) := hlt
 obtain ⟨ln, hln⟩ : ∃ ln, T.length = ln := ⟨_, rfl⟩
 have HLN : Hid (T.length = ln) := hln
 rw [hln] at hle
 obtain ⟨m, hm⟩ : ∃ m, M.n = m := ⟨_, rfl⟩
 rw [hm] at HE HLT hn hle
 obtain ⟨st, hst⟩ : ∃ b, (S.toList == [42]) = b := ⟨_, rfl⟩
 rw [hst]
 clear h hI hE hlt hT hm
 go_enter Tryz.func44, Tryz.ntmps44
 go_upto_region 3 with (go_at_call 99; refine rt.mono ?_; rintro e w1 ⟨ta, tc, rfl, hO, hk1⟩)
 have HR : Hid (Zah (fun q => q < w1.heap.size) w1 ta T) := hO.intsAt fun q hq => (hO.out hq).2
 have HK1 : Hid (Kept (fun k => k < w.heap.size) w w1) := hk1
 try rw [hln]
 clear rt hO hk1 hln
 go_upto_region 4 with fail
 go_loopg [7, 9] ln (fun gh v5 v7 wr => ∃ (j q c : Nat) (ao : Option Addr), gh = ln - j /\ j <= ln /\ v7 = .int .i64 (j : Int) /\ v5 = .slice ao q c /\ ((T.take j).filter fun x => st || decide ((M.nd x).name = S.toList)).length = q /\ Zac (fun k => k < w1.heap.size) wr 3 1 ao q c (ivs ((T.take j).filter fun x => st || decide ((M.nd x).name = S.toList))) /\ Kept (fun k => k < w1.heap.size) w1 wr)
 case atStart => exact ⟨0, 0, 0, none, by rfl, Nat.zero_le _, rfl, rfl, rfl, Zac.nil _ _ _ _, Kept.refl _ _⟩
 case round =>
  obtain ⟨j, q, c, ao, hgj, hj, rfl, rfl, hq, hO, hK⟩ := hrel
  have HKW : Hid (Kept (fun k => k < w.heap.size) w wr) := HK1.out.trans (hK.mono fun k h => ltl h HK1.out.size)
  by_cases hlt : j < ln
  ·have hjl : j < T.length := by rw [HLN.out]; exact hlt
   obtain ⟨g1, o, rfl, hg1, d⟩ := HR.out j hjl
   have hst := zmk (p := fun x => st || decide ((M.nd x).name = S.toList)) hjl
   have hxm := HLT.out _ (List.getElem_mem hjl)
   obtain ⟨x, hx⟩ : ∃ x, T[j] = x := ⟨_, rfl⟩
   rw [hx] at d hst hxm
   have d' : wr.cell? ⟨g1, o + j, none⟩ = some (.int .i64 (x : Int)) := (hK.cell (p := ⟨g1, o + j, none⟩) hg1).trans d
   obtain ⟨c1, c0⟩ := HE.out x hxm wr HKW.out
   have hql : q <= 100000 := by
    rw [<- hq]
    refine Nat.le_trans (List.length_filter_le ..) ?_
    rw [List.length_take, HLN.out]
    omega
   have HST : Hid ((T.take (j + 1)).filter (fun x => st || decide ((M.nd x).name = S.toList)) = (T.take j).filter (fun x => st || decide ((M.nd x).name = S.toList)) ++ (if (st || decide ((M.nd x).name = S.toList)) = true then [x] else [])) := hst
   have HO : Hid (Zac (fun k => k < w1.heap.size) wr 3 1 ao q c (ivs ((T.take j).filter fun x => st || decide ((M.nd x).name = S.toList)))) := hO
   have HK : Hid (Kept (fun k => k < w1.heap.size) w1 wr) := hK
   have HQ : Hid (((T.take j).filter fun x => st || decide ((M.nd x).name = S.toList)).length = q) := hq
   have HD : Hid (∀ X, Kept (fun k => k < wr.heap.size) wr X -> X.cell? ⟨g1, o + j, none⟩ = some (.int .i64 (x : Int))) := fun X hX => (hX.cell (p := ⟨g1, o + j, none⟩) (ltl hg1 hK.size)).trans d'
   have hnm : ((⟨(M.nd x).name.toArray⟩ : ByteArray).toList == S.toList) = decide ((M.nd x).name = S.toList) := by rw [zjk, zfi]; exact Bool.beq_comm
   obtain ⟨s, hs⟩ : ∃ s : ByteArray, (⟨(M.nd x).name.toArray⟩ : ByteArray) = s := ⟨_, rfl⟩
   rw [hs] at c0 hnm
   obtain ⟨nb, hnb⟩ : ∃ b, decide ((M.nd x).name = S.toList) = b := ⟨_, rfl⟩
   rw [hnb] at hnm
   have HBD : Hid (decide ((M.nd x).name = S.toList) = nb) := hnb
   clear d hst hO hK hq hx hs hnb hjl
   by_cases hb : (st || nb) = true
   ·have hHB : (T.take (j + 1)).filter (fun x => st || decide ((M.nd x).name = S.toList)) = (T.take j).filter (fun x => st || decide ((M.nd x).name = S.toList)) ++ [x] := by rw [HST.out, HBD.out, hb] <;> rfl
    have HB : Hid ((T.take (j + 1)).filter (fun x => st || decide ((M.nd x).name = S.toList)) = (T.take j).filter (fun x => st || decide ((M.nd x).name = S.toList)) ++ [x]) := hHB
    clear hHB
    cases st <;> cases nb <;> first | (exact absurd hb (by decide)) | skip
    all_goals
     clear hb
     go_upto_region 6 with fail
     go_quiet (fail)
     obtain ⟨wq, hwq⟩ : ∃ X, wr.drewN nq = X := ⟨_, rfl⟩
     have kq : Kept (fun k => k < wr.heap.size) wr wq := by rw [<- hwq]; exact (Kept.refl _ wr).drewN nq
     rw [hwq]
     have dq := HD.out wq kq
     have hOq := HO.out.to (w' := wq) (K' := fun k => k < w1.heap.size) (fun g hg => (HO.out.out hg).1) (fun g hg => kq.block g (HO.out.out hg).2)
     have hKq : Kept (fun k => k < w1.heap.size) w1 wq := HK.out.trans (kq.mono fun k h => ltl h HK.out.size)
     obtain ⟨ao', c', w', hrun, hO', hK'⟩ := zk0 hOq (fun k hk => ltl hk hKq.size) (by omega) (x : Int)
     rw [zgo, <- HB.out] at hO'
     have HO' : Hid _ := hO'
     have HK' : Hid (Kept (fun k => k < w1.heap.size) w1 w') := hKq.trans hK'
     clear hwq kq hOq hKq hO' hK' d' c1 c0
     go_wp2_with (at_builtin; refine zaj (w' := w') rfl (.tmp 36) (.tmp 41) 23 23 rfl _ _ (.slice ao' (q + 1) c') rfl rfl hrun ?_)
     go_roundg (ln - (j + 1))
     case rel => exact ⟨j + 1, q + 1, c', ao', rfl, by omega, by go_num, rfl, by rw [HB.out, List.length_append, HQ.out]; rfl, HO'.out, HK'.out⟩
     case measure => omega
   ·have hst0 : st = false := by cases st <;> simp_all
    have hnb0 : nb = false := by cases nb <;> simp_all
    subst hst0
    subst hnb0
    have hHB : (T.take (j + 1)).filter (fun x => false || decide ((M.nd x).name = S.toList)) = (T.take j).filter (fun x => false || decide ((M.nd x).name = S.toList)) := by rw [HST.out, HBD.out] <;> exact List.append_nil _
    have HB : Hid ((T.take (j + 1)).filter (fun x => false || decide ((M.nd x).name = S.toList)) = (T.take j).filter (fun x => false || decide ((M.nd x).name = S.toList))) := hHB
    clear hHB
    clear hb
    go_upto_region 6 with fail
    go_quiet (fail)
    obtain ⟨wq, hwq⟩ : ∃ X, wr.drewN nq = X := ⟨_, rfl⟩
    have kq : Kept (fun k => k < wr.heap.size) wr wq := by rw [<- hwq]; exact (Kept.refl _ wr).drewN nq
    rw [hwq]
    have hOq := HO.out.to (w' := wq) (K' := fun k => k < w1.heap.size) (fun g hg => (HO.out.out hg).1) (fun g hg => kq.block g (HO.out.out hg).2)
    rw [<- HB.out] at hOq
    have HO' : Hid _ := hOq
    have HK' : Hid (Kept (fun k => k < w1.heap.size) w1 wq) := HK.out.trans (kq.mono fun k h => ltl h HK.out.size)
    clear hwq kq hOq d' c1 c0
    go_wp2
    go_roundg (ln - (j + 1))
    case rel => exact ⟨j + 1, q, c, ao, rfl, by omega, by go_num, rfl, by rw [HB.out, HQ.out], HO'.out, HK'.out⟩
    case measure => omega
  ·have hall : T.take j = T := List.take_of_length_le (by rw [HLN.out]; omega)
   rw [hall] at hO hq
   have HO : Hid (Zac (fun k => k < w1.heap.size) wr 3 1 ao q c (ivs (T.filter fun x => st || decide ((M.nd x).name = S.toList)))) := hO
   have HQ : Hid ((T.filter fun x => st || decide ((M.nd x).name = S.toList)).length = q) := hq
   clear hall hO hq hK
   go_wp2
   go_ret
   exact ⟨ao, c, by rw [HQ.out]; rfl, by rw [HQ.out]; exact HO.out.to (fun g hg hh => (HO.out.out hg).1 (ltl hh HK1.out.size)) (fun _ _ => rfl), HKW.out⟩
end
end Go.Proofs.YtojbjiopilkbgaaGreat
