/-
  The document's own query: by an attribute, by an id; the closest one.
-/
import Derived.Test.YtojbjiopilkbgaaGreatVQe
import Derived.Test.YtojbjiopilkbgaaGreatVQi
namespace Go.Proofs.YtojbjiopilkbgaaGreat
open Go.RowKit Go.Sort
set_option linter.unusedVariables false
set_option maxRecDepth 100000
set_option maxHeartbeats 8000000
theorem zpf {f : Nat -> List Nat} {T : List Nat} {j : Nat} (hj : j < T.length) : (T.take (j + 1)).flatMap f = (T.take j).flatMap f ++ f T[j] := by
 rw [List.take_succ_eq_append_getElem hj, List.flatMap_append, List.flatMap_singleton]
def atK (l : List Atr) (nm v : List UInt8) (x k : Nat) : List Nat := ((l.take k).filter (isA nm v)).map fun _ => x
theorem zoh {l : List Atr} {nm v : List UInt8} {x k : Nat} (hk : k < l.length) : atK l nm v x (k + 1) = atK l nm v x k ++ (if isA nm v l[k] = true then [x] else []) := by
 unfold atK
 rw [List.take_succ_eq_append_getElem hk, List.filter_append, List.map_append]
 by_cases c : isA nm v l[k] = true
 ·rw [if_pos c, List.filter_cons_of_pos c]; rfl
 ·rw [if_neg c, List.filter_cons_of_neg c]; rfl
theorem zow {f : Nat -> List Nat} {c : Nat} : ∀ (T : List Nat), (∀ x ∈ T, (f x).length <= c) -> (T.flatMap f).length <= T.length * c
 | [], _ => Nat.zero_le _
 | x :: r, h => by
  rw [List.flatMap_cons, List.length_append, List.length_cons, Nat.succ_mul]
  have h1 := h x (List.mem_cons_self ..)
  have h2 := zow r fun y hy => h y (List.mem_cons_of_mem _ hy)
  omega
theorem zsf (l : List UInt8) : (⟨l.toArray⟩ : ByteArray).toList = l := by rw [ByteArray.toList_eq]
section
variable {K : Nat -> Prop} {w : World} {r : Nat} {M : Dm} {R G : Nat -> List Nat} {rk : Nat -> Nat}
theorem zfq (h : RX K TT w r M R G) (hI : Inv M R G rk) (hn : M.n <= 100000) (S V : ByteArray) (z : Int) :
  Calls Tryz.prog 46 #[.pointer (some ⟨r, 0, none⟩), .int .i64 z, .string S, .string V] w (Lst w ((zj0 M R z).flatMap (zfm M S.toList V.toList))) := by
 have rt := zdv h hI hn z
 obtain ⟨g, nc, hE⟩ := h.at14
 have HE : Hid (∀ i, i < M.n -> ∃ aa ac, ∀ Y, Kept (fun k => k < w.heap.size) w Y -> Y.cell? ⟨r, 1, none⟩ = some (.slice (some ⟨g, 0, none⟩) M.n nc) /\ Y.cell? ⟨g, i * 14 + 3, none⟩ = some (.slice aa (M.nd i).attrs.length ac) /\ Zai (fun k => k < w.heap.size) Y aa (M.nd i).attrs) := fun i hi => by
  obtain ⟨aa, ac, ka, kc, -, hA⟩ := hE i hi
  exact ⟨aa, ac, fun Y hY => ⟨(hA Y hY).c1, (hA Y hY).c 3 _ rfl, (hA Y hY).ats⟩⟩
 have hlt : ∀ x ∈ zj0 M R z, x < M.n := fun x hx => zmo hI.good.only z x (List.mem_of_mem_drop (List.mem_filter.1 hx).1)
 have hle : (zj0 M R z).length <= M.n := Nat.le_trans (List.length_filter_le _ _) (Nat.le_trans (by rw [List.length_drop]; omega) (zdm hI.good.only z))
 have HFW : Hid (∀ x, x < M.n -> (M.nd x).attrs.length <= 1000) := fun x hx => Nat.le_trans (hI.good.few x hx) (by omega)
 obtain ⟨T, hT⟩ : ∃ T, zj0 M R z = T := ⟨_, rfl⟩
 rw [hT] at rt hlt hle ⊢
 have HLT : Hid (∀ x ∈ T, x < M.n) := hlt
 obtain ⟨ln, hln⟩ : ∃ ln, T.length = ln := ⟨_, rfl⟩
 have HLN : Hid (T.length = ln) := hln
 rw [hln] at hle
 obtain ⟨m, hm⟩ : ∃ m, M.n = m := ⟨_, rfl⟩
 rw [hm] at HE HLT HFW hn hle
 clear h hI hE hlt hT hm
 go_enter Tryz.func46, Tryz.ntmps46
 go_upto_region 3 with (go_at_call 99; refine rt.mono ?_; rintro e w1 ⟨ta, tc, rfl, hO, hk1⟩)
 have HR : Hid (Zah (fun q => q < w1.heap.size) w1 ta T) := hO.intsAt fun q hq => (hO.out hq).2
 have HK1 : Hid (Kept (fun k => k < w.heap.size) w w1) := hk1
 try rw [hln]
 clear rt hO hk1 hln
 go_upto_region 4 with fail
 go_loopg [9, 11] ln (fun gh v5 v7 wr => ∃ (j q c : Nat) (ao : Option Addr), gh = ln - j /\ j <= ln /\ v7 = .int .i64 (j : Int) /\ v5 = .slice ao q c /\ ((T.take j).flatMap (zfm M S.toList V.toList)).length = q /\ Zac (fun k => k < w1.heap.size) wr 3 1 ao q c (ivs ((T.take j).flatMap (zfm M S.toList V.toList))) /\ Kept (fun k => k < w1.heap.size) w1 wr)
 case atStart => exact ⟨0, 0, 0, none, by rfl, Nat.zero_le _, rfl, rfl, rfl, Zac.nil _ _ _ _, Kept.refl _ _⟩
 case round =>
  obtain ⟨j, q, c, ao, hgj, hj, rfl, rfl, hq, hO, hK⟩ := hrel
  have HKW : Hid (Kept (fun k => k < w.heap.size) w wr) := HK1.out.trans (hK.mono fun k h => ltl h HK1.out.size)
  by_cases hlt : j < ln
  ·have hjl : j < T.length := by rw [HLN.out]; exact hlt
   obtain ⟨g1, o, rfl, hg1, d⟩ := HR.out j hjl
   have hst := zpf (f := zfm M S.toList V.toList) hjl
   have hxm := HLT.out _ (List.getElem_mem hjl)
   have hq5 : q <= 100000000 := by
    have h1 : ∀ x ∈ T.take j, (zfm M S.toList V.toList x).length <= 1000 := fun x hx => by
     unfold zfm
     rw [List.length_map]
     exact Nat.le_trans (List.length_filter_le _ _) (HFW.out x (HLT.out x (List.mem_of_mem_take hx)))
    have h2 := zow (T.take j) h1
    rw [hq, List.length_take, HLN.out] at h2
    have h3 : min j ln * 1000 <= 100000 * 1000 := Nat.mul_le_mul_right _ (by omega)
    omega
   have HQ5 : Hid (q <= 100000000) := hq5
   clear hq5
   obtain ⟨x, hx⟩ : ∃ x, T[j] = x := ⟨_, rfl⟩
   rw [hx] at d hst hxm
   have d' : wr.cell? ⟨g1, o + j, none⟩ = some (.int .i64 (x : Int)) := (hK.cell (p := ⟨g1, o + j, none⟩) hg1).trans d
   obtain ⟨aa, ac, hA⟩ := HE.out x hxm
   have HA : Hid (∀ Y, Kept (fun k => k < w.heap.size) w Y -> Y.cell? ⟨r, 1, none⟩ = some (.slice (some ⟨g, 0, none⟩) m nc) /\ Y.cell? ⟨g, x * 14 + 3, none⟩ = some (.slice aa (M.nd x).attrs.length ac) /\ Zai (fun k => k < w.heap.size) Y aa (M.nd x).attrs) := hA
   obtain ⟨c1, c3, -⟩ := hA wr HKW.out
   have HST : Hid ((T.take (j + 1)).flatMap (zfm M S.toList V.toList) = (T.take j).flatMap (zfm M S.toList V.toList) ++ zfm M S.toList V.toList x) := hst
   have HO : Hid (Zac (fun k => k < w1.heap.size) wr 3 1 ao q c (ivs ((T.take j).flatMap (zfm M S.toList V.toList)))) := hO
   have HK : Hid (Kept (fun k => k < w1.heap.size) w1 wr) := hK
   have HQ : Hid (((T.take j).flatMap (zfm M S.toList V.toList)).length = q) := hq
   have HD : Hid (∀ X, Kept (fun k => k < w1.heap.size) w1 X -> X.cell? ⟨g1, o + j, none⟩ = some (.int .i64 (x : Int))) := fun X hX => (hX.cell (p := ⟨g1, o + j, none⟩) hg1).trans d
   obtain ⟨L, hL⟩ : ∃ L, (M.nd x).attrs = L := ⟨_, rfl⟩
   have hAL : zfm M S.toList V.toList x = atK L S.toList V.toList x L.length := by
    unfold zfm atK
    rw [hL, List.take_length]
   have HAL : Hid (zfm M S.toList V.toList x = atK L S.toList V.toList x L.length) := hAL
   clear hAL
   have hL1 := HFW.out x hxm
   rw [hL] at HA c3 hL1
   obtain ⟨an, han⟩ : ∃ an, L.length = an := ⟨_, rfl⟩
   have HAN : Hid (L.length = an) := han
   rw [han] at HA c3 hL1 HAL
   clear d hst hO hK hq hx hL hA han hjl
   go_upto_region 6 with fail
   go_quiet (fail)
   obtain ⟨wq, hwq⟩ : ∃ X, wr.drewN nq = X := ⟨_, rfl⟩
   have kq : Kept (fun k => k < wr.heap.size) wr wq := by rw [<- hwq]; exact (Kept.refl _ wr).drewN nq
   rw [hwq]
   have hOq := HO.out.to (w' := wq) (K' := fun k => k < w1.heap.size) (fun g hg => (HO.out.out hg).1) (fun g hg => kq.block g (HO.out.out hg).2)
   have HOQ : Hid _ := hOq
   have HKQ : Hid (Kept (fun k => k < w1.heap.size) w1 wq) := HK.out.trans (kq.mono fun k h => ltl h HK.out.size)
   clear hwq kq hOq d' c1 c3
   go_upto_region 8 with fail
   go_loopg [9, 13] an (fun gh v5 v7 wi => ∃ (k q' c' : Nat) (ao' : Option Addr), gh = an - k /\ k <= an /\ v7 = .int .i64 (k : Int) /\ v5 = .slice ao' q' c' /\ q + (atK L S.toList V.toList x k).length = q' /\ Zac (fun k => k < w1.heap.size) wi 3 1 ao' q' c' (ivs ((T.take j).flatMap (zfm M S.toList V.toList) ++ atK L S.toList V.toList x k)) /\ Kept (fun k => k < w1.heap.size) w1 wi)
   case atStart => exact ⟨0, q, c, ao, by rfl, Nat.zero_le _, rfl, rfl, rfl, by rw [show atK L S.toList V.toList x 0 = [] from rfl, List.append_nil]; exact HOQ.out, HKQ.out⟩
   case round =>
    obtain ⟨k, q', c', ao', hgk, hk, rfl, rfl, hq', hO', hK'⟩ := hrel
    by_cases hlk : k < an
    ·have hkl : k < L.length := by rw [HAN.out]; exact hlk
     have hKW' : Kept (fun k => k < w.heap.size) w wr := HK1.out.trans (hK'.mono fun k h => ltl h HK1.out.size)
     obtain ⟨-, -, hat⟩ := HA.out wr hKW'
     obtain ⟨g2, o2, rfl, hg2, d1, d2⟩ := hat k hkl
     have dd := HD.out wr hK'
     have hql : q' <= 200000000 := by
      have := HQ5.out
      have h3 : (atK L S.toList V.toList x k).length <= 1000 := by
       unfold atK
       rw [List.length_map]
       refine Nat.le_trans (List.length_filter_le ..) ?_
       rw [List.length_take, HAN.out]
       omega
      omega
     have HST2 : Hid _ := zoh (nm := S.toList) (v := V.toList) (x := x) hkl
     have heq := zos S V L[k]
     unfold sv at d1 d2
     obtain ⟨x1, hx1⟩ : ∃ x : ByteArray, (⟨L[k].name.toArray⟩ : ByteArray) = x := ⟨_, rfl⟩
     obtain ⟨x2, hx2⟩ : ∃ x : ByteArray, (⟨L[k].value.toArray⟩ : ByteArray) = x := ⟨_, rfl⟩
     rw [hx1] at d1 heq
     rw [hx2] at d2 heq
     obtain ⟨b1, hb1⟩ : ∃ b, (x1.toList == S.toList) = b := ⟨_, rfl⟩
     obtain ⟨b2, hb2⟩ : ∃ b, (x2.toList == V.toList) = b := ⟨_, rfl⟩
     have hIA : isA S.toList V.toList L[k] = (b1 && b2) := by
      rw [heq, <- hb1, <- hb2, Bool.beq_comm (a := S.toList), Bool.beq_comm (a := V.toList)]
     have HIA : Hid (isA S.toList V.toList L[k] = (b1 && b2)) := hIA
     clear hIA
     have HO' : Hid (Zac (fun k => k < w1.heap.size) wr 3 1 ao' q' c' (ivs ((T.take j).flatMap (zfm M S.toList V.toList) ++ atK L S.toList V.toList x k))) := hO'
     have HK' : Hid (Kept (fun k => k < w1.heap.size) w1 wr) := hK'
     have HQ' : Hid (q + (atK L S.toList V.toList x k).length = q') := hq'
     clear hx1 hx2 heq hO' hK' hq' hat hKW'
     by_cases hbb : (b1 && b2) = true
     ·obtain ⟨rfl, rfl⟩ : b1 = true /\ b2 = true := by simpa using hbb
      obtain ⟨ao2, c2, w', hrun, hO2, hK2⟩ := zk0 HO'.out (fun k hk => ltl hk HK'.out.size) (by omega) (x : Int)
      have hHB : atK L S.toList V.toList x (k + 1) = atK L S.toList V.toList x k ++ [x] := by rw [HST2.out, HIA.out] <;> rfl
      have HB : Hid (atK L S.toList V.toList x (k + 1) = atK L S.toList V.toList x k ++ [x]) := hHB
      clear hHB
      rw [zgo, List.append_assoc, <- HB.out] at hO2
      have HO2 : Hid _ := hO2
      have HK2 : Hid (Kept (fun k => k < w1.heap.size) w1 w') := HK'.out.trans hK2
      clear hbb hO2 hK2
      go_wp2_with (at_builtin; refine zaj (w' := w') rfl (.tmp 56) (.tmp 61) 23 23 rfl _ _ (.slice ao2 (q' + 1) c2) rfl rfl hrun ?_)
      go_roundg (an - (k + 1))
      case rel => exact ⟨k + 1, q' + 1, c2, ao2, rfl, by omega, by go_num, rfl, by rw [HB.out, List.length_append, <- Nat.add_assoc, HQ'.out]; rfl, HO2.out, HK2.out⟩
      case measure => omega
     ·have hHB : atK L S.toList V.toList x (k + 1) = atK L S.toList V.toList x k := by rw [HST2.out, HIA.out, if_neg hbb] <;> exact List.append_nil _
      have HB : Hid (atK L S.toList V.toList x (k + 1) = atK L S.toList V.toList x k) := hHB
      clear hHB
      cases b1 <;> cases b2 <;> first | (exact absurd rfl hbb) | skip
      all_goals
       clear hbb
       go_wp2
       go_roundg (an - (k + 1))
       case rel => exact ⟨k + 1, q', c', ao', rfl, by omega, by go_num, rfl, by rw [HB.out, HQ'.out], by rw [HB.out]; exact HO'.out, HK'.out⟩
       case measure => omega
    ·have hkn : an = k := by omega
     subst hkn
     have HO' : Hid (Zac (fun k => k < w1.heap.size) wr 3 1 ao' q' c' (ivs ((T.take (j + 1)).flatMap (zfm M S.toList V.toList)))) := by rw [HST.out, HAL.out]; exact hO'
     have HK' : Hid (Kept (fun k => k < w1.heap.size) w1 wr) := hK'
     have HQ' : Hid (((T.take (j + 1)).flatMap (zfm M S.toList V.toList)).length = q') := by rw [HST.out, HAL.out, List.length_append, HQ.out]; exact hq'
     clear hO' hK' hq'
     go_wp2
     go_roundg (ln - (j + 1))
     case rel => exact ⟨j + 1, q', c', ao', rfl, by omega, by go_num, rfl, HQ'.out, HO'.out, HK'.out⟩
     case measure => omega
  ·have hall : T.take j = T := List.take_of_length_le (by rw [HLN.out]; omega)
   rw [hall] at hO hq
   have HO : Hid (Zac (fun k => k < w1.heap.size) wr 3 1 ao q c (ivs (T.flatMap (zfm M S.toList V.toList)))) := hO
   have HQ : Hid ((T.flatMap (zfm M S.toList V.toList)).length = q) := hq
   clear hall hO hq hK
   go_wp2
   go_ret
   exact ⟨ao, c, by rw [HQ.out]; rfl, by rw [HQ.out]; exact HO.out.to (fun g hg hh => (HO.out.out hg).1 (ltl hh HK1.out.size)) (fun _ _ => rfl), HKW.out⟩
theorem zmu (h : RX K TT w r M R G) (hI : Inv M R G rk) (hn : M.n <= 100000) (S : ByteArray) (z : Int) (l : List Nat) (hl : (zj0 M R z).flatMap (zfm M [105, 100] S.toList) = l) :
  Calls Tryz.prog 39 #[.pointer (some ⟨r, 0, none⟩), .int .i64 z, .string S] w fun e w' => e = .returned (.int .i64 (idI S.toList l)) /\ Kept (fun k => k < w.heap.size) w w' := by
 have rt := zfq h hI hn ⟨#[105, 100]⟩ S z
 rw [zsf [105, 100], hl] at rt
 clear h hI hl
 by_cases hS : S.toList = []
 ·have e1 : (S.toList == []) = true := by rw [hS]; rfl
  have HI : Hid (idI S.toList l = -1) := if_pos hS
  rw [HI.out]
  go_enter Tryz.func39, Tryz.ntmps39
  go_wp2_with fail
  refine rt.mono ?_
  rintro e w1 ⟨ta, tc, rfl, hO, hk1⟩
  have HK1 : Hid (Kept (fun k => k < w.heap.size) w w1) := hk1
  clear rt hO hk1
  go_wp2
  go_ret
  exact ⟨rfl, HK1.out⟩
 ·have e1 : (S.toList == []) = false := beq_eq_false_iff_ne.2 hS
  have HI : Hid (idI S.toList l = zrv l) := if_neg hS
  rw [HI.out]
  cases l with
  | nil =>
   go_enter Tryz.func39, Tryz.ntmps39
   go_wp2_with fail
   refine rt.mono ?_
   rintro e w1 ⟨ta, tc, rfl, hO, hk1⟩
   have HK1 : Hid (Kept (fun k => k < w.heap.size) w w1) := hk1
   clear rt hO hk1 HI
   rw [List.length_nil]
   go_wp2
   go_ret
   exact ⟨rfl, HK1.out⟩
  | cons x l =>
   obtain ⟨n, hln⟩ : ∃ n, (x :: l).length = n + 1 := ⟨l.length, rfl⟩
   have e2 : (((n + 1 : Nat) : Int) == 0) = false := by rw [beq_eq_false_iff_ne]; omega
   go_enter Tryz.func39, Tryz.ntmps39
   go_wp2_with fail
   refine rt.mono ?_
   rintro e w1 ⟨ta, tc, rfl, hO, hk1⟩
   have HK1 : Hid (Kept (fun k => k < w.heap.size) w w1) := hk1
   have hrow := hO.intsAt (F := fun _ => True) fun _ _ => trivial
   obtain ⟨g, o, rfl, -, d⟩ := hrow 0 (Nat.succ_pos _)
   have d0 : w1.cell? ⟨g, o, none⟩ = some (.int .i64 (x : Int)) := d
   rw [hln]
   clear rt hO hk1 HI hrow d
   go_wp2
   go_ret
   exact ⟨rfl, HK1.out⟩
theorem zhv (h : RX K TT w r M R G) (hG : Good M R rk) (hn : M.n <= 100000) (S : ByteArray) (z c : Int) (hc : Clo M S.toList z c) :
  Calls Tryz.prog 41 #[.pointer (some ⟨r, 0, none⟩), .int .i64 z, .string S] w fun e w' => e = .returned (.int .i64 c) /\ Kept (fun k => k < w.heap.size) w w' := by
 obtain ⟨A, h14⟩ := h
 have HC1 : Hid (w.cell? ⟨r, 1, none⟩ = some (.slice A.na M.n A.nc)) := h14.c1
 have hE : ∀ i, i < M.n -> ∃ g, A.na = some ⟨g, 0, none⟩ /\ w.cell? ⟨g, i * 14, none⟩ = some (.int .u8 ((M.nd i).kind : Int)) /\ w.cell? ⟨g, i * 14 + 1, none⟩ = some (sv (M.nd i).name) /\ w.cell? ⟨g, i * 14 + 4, none⟩ = some (.int .i64 (M.pl i).up) := fun i hi => by
  obtain ⟨g, hg, -, -, -⟩ := h14.nat (by omega)
  exact ⟨g, hg, h14.cell hg hi 0 _ rfl, h14.cell hg hi 1 _ rfl, h14.cell hg hi 4 _ rfl⟩
 have HE : Hid _ := hE
 have HG : Hid (Good M R rk) := hG
 have HC : Hid (Clo M S.toList z c) := hc
 obtain ⟨m, hm⟩ : ∃ m, M.n = m := ⟨_, rfl⟩
 have HM : Hid (M.n = m) := hm
 rw [hm] at HC1 hn
 clear h14 hE hG hc hm
 go_enter Tryz.func41, Tryz.ntmps41
 go_upto_region 1 with fail
 go_loopg [1] (if 0 <= z /\ z < m then rk z.toNat + 1 else 0) (fun gh v wr => wr = w /\ ∃ y : Int, gh = (if 0 <= y /\ y < m then rk y.toNat + 1 else 0) /\ v = .int .i64 y /\ Clo M S.toList y c)
 case atStart => exact ⟨rfl, z, rfl, rfl, HC.out⟩
 case round =>
  obtain ⟨hw, y, hgk, rfl, hcy⟩ := hrel
  subst hw
  have c1 := HC1.out
  by_cases hy0 : y < 0
  ·have hc1 : c = -1 := hcy.one (.out (.inl hy0))
   subst hc1
   have i1 : decide (y >= 0) = false := decide_eq_false (by omega)
   clear hcy hgk hy0
   go_wp2
   go_ret
   exact ⟨rfl, Kept.refl _ _⟩
  ·have i1 : decide (y >= 0) = true := decide_eq_true (by omega)
   by_cases hym : (m : Int) <= y
   ·have hc1 : c = -1 := hcy.one (.out (.inr (by rw [HM.out]; exact hym)))
    subst hc1
    have i2 : decide (y < (m : Int)) = false := decide_eq_false (by omega)
    clear hcy hgk hy0 hym
    go_wp2
    go_ret
    exact ⟨rfl, Kept.refl _ _⟩
   ·obtain ⟨x, hx, rfl⟩ : ∃ k : Nat, k < m /\ y = (k : Int) := ⟨y.toNat, by omega, by omega⟩
    have i2 : decide ((x : Int) < (m : Int)) = true := decide_eq_true (by omega)
    obtain ⟨g, hg, c0, cn, c4⟩ := HE.out x (by rw [HM.out]; exact hx)
    rw [hg] at c1
    have hnm : ((⟨(M.nd x).name.toArray⟩ : ByteArray).toList == S.toList) = decide ((M.nd x).name = S.toList) := by rw [zjk, zfi]; exact Bool.beq_comm
    unfold sv at cn
    obtain ⟨s, hs⟩ : ∃ s : ByteArray, (⟨(M.nd x).name.toArray⟩ : ByteArray) = s := ⟨_, rfl⟩
    rw [hs] at cn hnm
    obtain ⟨nb, hnb⟩ : ∃ b, decide ((M.nd x).name = S.toList) = b := ⟨_, rfl⟩
    rw [hnb] at hnm
    obtain ⟨kd, hkd⟩ : ∃ k, (M.nd x).kind = k := ⟨_, rfl⟩
    rw [hkd] at c0
    have hHN : zey S.toList (M.nd x) = (decide (kd = 1) && nb) := by unfold zey; rw [hkd, hnb] <;> rfl
    have HN : Hid (zey S.toList (M.nd x) = (decide (kd = 1) && nb)) := hHN
    clear hHN
    have hHX : x < M.n := by rw [HM.out] <;> exact hx
    have HX : Hid (x < M.n) := hHX
    clear hHX
    have HCY : Hid (Clo M S.toList (x : Int) c) := hcy
    have hHGK : gk = rk x + 1 := by rw [hgk, if_pos ⟨by omega, by omega⟩, Int.toNat_natCast] <;> rfl
    have HGK : Hid (gk = rk x + 1) := hHGK
    clear hHGK
    obtain ⟨u, hu⟩ : ∃ u, (M.pl x).up = u := ⟨_, rfl⟩
    have HU : Hid ((M.pl x).up = u) := hu
    rw [hu] at c4
    have hUP : zey S.toList (M.nd x) = false -> Clo M S.toList u c := fun hP => by
     rw [<- HU.out]
     have h := HCY.out
     generalize hz : (x : Int) = z' at h
     cases h with
     | out ho => have := HX.out; omega
     | @here j hj hn' =>
      have : x = j := by omega
      subst this
      rw [hP] at hn'; cases hn'
     | @up j _ hj _ h2 =>
      have : x = j := by omega
      subst this
      exact h2
    have HUP : Hid (zey S.toList (M.nd x) = false -> Clo M S.toList u c) := hUP
    have hMS : (if 0 <= u /\ u < m then rk u.toNat + 1 else 0) < rk x + 1 := by
     by_cases cu : 0 <= u /\ u < (m : Int)
     ·rw [if_pos cu]
      have hup : (M.pl x).up = (u.toNat : Int) := by rw [HU.out]; omega
      have := (HG.out.rk_up HX.out hup).2
      omega
     ·rw [if_neg cu]; omega
    have HMS : Hid ((if 0 <= u /\ u < m then rk u.toNat + 1 else 0) < rk x + 1) := hMS
    clear hcy hgk hs hnb hkd hu hg hy0 hym hUP hMS
    by_cases hk1 : kd = 1
    ·have e1 : ((kd : Int) == 1) = true := by rw [hk1]; rfl
     cases nb with
     | true =>
      have hcx : c = (x : Int) := HCY.out.one (.here HX.out (by rw [HN.out, hk1]; rfl))
      subst hcx
      clear hk1
      go_wp2
      go_ret
      exact ⟨rfl, Kept.refl _ _⟩
     | false =>
      have HN0 : Hid (Clo M S.toList u c) := HUP.out (by rw [HN.out, Bool.and_false])
      clear hk1
      go_wp2
      go_roundg (if 0 <= u /\ u < m then rk u.toNat + 1 else 0)
      case rel => exact ⟨rfl, u, rfl, rfl, HN0.out⟩
      case measure => rw [HGK.out]; exact HMS.out
    ·have e1 : ((kd : Int) == 1) = false := by rw [beq_eq_false_iff_ne]; omega
     have HN0 : Hid (Clo M S.toList u c) := HUP.out (by rw [HN.out, decide_eq_false hk1]; rfl)
     clear hk1
     go_wp2
     go_roundg (if 0 <= u /\ u < m then rk u.toNat + 1 else 0)
     case rel => exact ⟨rfl, u, rfl, rfl, HN0.out⟩
     case measure => rw [HGK.out]; exact HMS.out
end
end Go.Proofs.YtojbjiopilkbgaaGreat
