/-
 The walk of FlatTree.; The walk of SlotsOnce.; The walk of SlotsFirst.
-/
import Derived.Test.YtljnjdckhkglfaaGreatE01
import Derived.Test.YtljnjdckhkglfaaGreatB32
import Derived.Test.YtljnjdckhkglfaaGreatE02
import Derived.Test.YtljnjdckhkglfaaGreatC02
import Derived.Test.YtljnjdckhkglfaaGreatB33
import Derived.Test.YtljnjdckhkglfaaGreatB06
import Derived.Laws.MakeOwn
import Derived.Laws.OwnMore
namespace Go.Proofs.YtljnjdckhkglfaaGreat
set_option linter.unusedVariables false
set_option maxRecDepth 100000
set_option maxHeartbeats 8000000
section
open Go.RowKit Go.Sort
section
variable {K E : Nat -> Prop} {w : World} {p r : Nat} {M : Dm} {R G : Nat -> List Nat} {rk : Nat -> Nat} {lim : Nat}
theorem Grown.rd (h : Grown K E w p r M R G rk lim) (hl : lim <= 100000) {X : World} (hk : Kept (fun k => k < w.heap.size) w X) : Rd (TK K E) X p M R G rk := ⟨h.two.d.kept hk, h.inv, h.nle hl⟩
end
end
section
open Go.RowKit Go.Sort
def b01 (b : Bool) : Int := if b = true then 1 else 0
def Cn (w : World) (g m : Nat) (P : Nat -> Bool) : Prop := ∃ cur : Array Value, w.heap[g]? = some (.cells cur 3 (0, 0)) /\ cur.size = m /\ ∀ x, x < m -> cur[x]? = some (.int .i64 (b01 (P x)))
section
variable {w w' : World} {g m : Nat} {P Q : Nat -> Bool}
theorem Cn.cell (h : Cn w g m P) {x : Nat} (hx : x < m) : w.cell? ⟨g, x, none⟩ = some (.int .i64 (b01 (P x))) := by
 obtain ⟨cur, hb, _, hc⟩ := h
 rw [cell_block hb]
 exact hc x hx
theorem Cn.kept (h : Cn w g m P) (hk : w'.heap[g]? = w.heap[g]?) : Cn w' g m P := by
 obtain ⟨cur, hb, hc⟩ := h
 exact ⟨cur, hk.trans hb, hc⟩
end
end
section
open Go.RowKit Go.Sort
theorem lattr_any (x : Nd) (ao : Option Addr) (ac : Nat) (up : Int) (ko : Option Addr) (kn kc : Nat) (s : ByteArray) (X : World) (hl : x.attrs.length <= 1000) (ha : AtsAt (fun k => k < X.heap.size) X ao x.attrs) :
  Calls Tryz.prog 31 #[.agg (nV x ao ac up ko kn kc), .string s] X fun e w' => e = .returned (sv (atV s.toList x.attrs)) /\ Kept (fun k => k < X.heap.size) X w' := by
 obtain ⟨V, N, hV, hN, hb, hk, -⟩ := alloc_box X (nV x ao ac up ko kn kc) 41
 have c3 : V.cell? ⟨N, 3, none⟩ = some (.slice ao x.attrs.length ac) := by rw [cell_block hb]; rfl
 have haV : AtsAt (fun k => k < V.heap.size) V ao x.attrs := ha.kept hk fun k h => Nat.lt_of_lt_of_le h hk.size
 obtain ⟨n, hn⟩ : ∃ n, x.attrs.length = n := ⟨_, rfl⟩
 rw [hn] at c3 hl
 have HK : Hid (Kept (fun k => k < X.heap.size) X V) := hk
 have HV : Hid (X.alloc (.cells (nV x ao ac up ko kn kc) 41) = V) := hV
 have HN : Hid (X.heap.size = N) := hN
 have HA : Hid (AtsAt (fun k => k < V.heap.size) V ao x.attrs) := haV
 have HNN : Hid (x.attrs.length = n) := hn
 obtain ⟨v, hv⟩ : ∃ v, atV s.toList x.attrs = v := ⟨_, rfl⟩
 have HVV : Hid (atV s.toList x.attrs = v) := hv
 rw [hv]
 clear hV hN hb hk haV ha hn hv
 go_enter Tryz.func31, Tryz.ntmps31
 go_upto_region 2 with fail
 rw [HV.out, HN.out]
 clear HV HN
 go_loopg [5] n (fun gh v5 wr => ∃ j : Nat, gh = n - j /\ j <= n /\ v5 = .int .i64 (j : Int) /\ (∀ y ∈ x.attrs.take j, y.name ≠ s.toList) /\ wr = V)
 case atStart => exact ⟨0, rfl, Nat.zero_le _, rfl, fun y hy => by simp at hy, rfl⟩
 case round =>
  obtain ⟨j, hgj, hj, rfl, hno, rfl⟩ := hrel
  have HNO : Hid (∀ y ∈ x.attrs.take j, y.name ≠ s.toList) := hno
  clear hno
  by_cases hlt : j < n
  ·have hjl : j < x.attrs.length := by rw [HNN.out]; exact hlt
   obtain ⟨g, o, rfl, hg, a0, a1⟩ := HA.out j hjl
   have HJ : Hid (x.attrs.take (j + 1) = x.attrs.take j ++ [x.attrs[j]]) := List.take_succ_eq_append_getElem hjl
   obtain ⟨nb, hnb⟩ : ∃ nb, (⟨x.attrs[j].name.toArray⟩ : ByteArray) = nb := ⟨_, rfl⟩
   have HNB : Hid (x.attrs[j].name = nb.toList) := by rw [<- hnb, ByteArray.toList_eq]; exact rfl
   unfold sv at a0 a1
   rw [hnb] at a0
   obtain ⟨q, hq⟩ : ∃ q, (nb.toList == s.toList) = q := ⟨_, rfl⟩
   obtain ⟨vb, hvb⟩ : ∃ vb, (⟨x.attrs[j].value.toArray⟩ : ByteArray) = vb := ⟨_, rfl⟩
   have HVB : Hid ((⟨x.attrs[j].value.toArray⟩ : ByteArray) = vb) := hvb
   rw [hvb] at a1
   clear hnb hvb
   cases q with
   | true =>
    have HE : Hid (v = x.attrs[j].value) := by rw [<- HVV.out]; exact atV_at hjl (by rw [HNB.out]; simpa using hq) HNO.out
    go_wp2
    go_ret
    exact ⟨by rw [HE.out]; show _ = Ending.returned (.string ⟨x.attrs[j].value.toArray⟩); rw [HVB.out]; rfl, HK.out⟩
   | false =>
    have h0 : nb.toList ≠ s.toList := by simpa using hq
    have HNE : Hid (x.attrs[j].name ≠ s.toList) := by rw [HNB.out]; exact h0
    clear h0
    go_wp2
    go_roundg (n - (j + 1))
    case rel =>
     refine ⟨j + 1, rfl, by omega, by go_num, fun y hy => ?_, rfl⟩
     rw [HJ.out] at hy
     rcases List.mem_append.1 hy with h | h
     ·exact HNO.out y h
     ·rw [List.mem_singleton.1 h]; exact HNE.out
    case measure => omega
  ·have hjn : n = j := by omega
   subst hjn
   have HE : Hid (v = []) := by rw [<- HVV.out]; exact atV_no fun y hy => HNO.out y (by rw [List.take_of_length_le (by rw [HNN.out]; exact Nat.le_refl _)]; exact hy)
   go_wp2
   go_ret
   exact ⟨by rw [HE.out]; rfl, HK.out⟩
theorem enter31 (args : Array Value) (X : World) : (callFunc 31 args).run Tryz.prog X = .ok (.enter 31 args) X := entersE Tryz.func31 (by kernel_rfl) (c := _) rfl args X
section
variable {K E : Nat -> Prop} {w : World} {p r : Nat} {M : Dm} {R G : Nat -> List Nat} {rk : Nat -> Nat} {lim : Nat}
theorem Grown.pTree (h : Grown K E w p r M R G rk lim) (hl : lim <= 100000) {i : Nat} (hi : i < M.n) {X : World} (hk : Kept (fun k => k < w.heap.size) w X) : Calls Tryz.prog 30 #[.pointer (some ⟨r, 0, none⟩), .int .i64 (i : Int)] X (Lst X (tr M.n R i)) :=
 pTree_in _ r M R G rk w h.two.r h.inv (h.nle hl) _ i (Nat.lt_succ_self _) hi X hk
end
theorem sfirst_go (l : List Opx) (n : Nat) (hln : l.length = n) (hnn : n <= 60) (a : Option Addr) (c : Nat) (hok : ∀ o ∈ l, OpOk o) (hb : opsH l <= 6000) (w : World) (h : OpsAt (fun k => k < w.heap.size) w a l) (za : Nat) (hza : za < 65536) :
  Calls Tryz.prog 5 #[.slice a n c, .int .u16 (za : Int)] w fun e w' => e = .returned (.bool true) /\ Kept (fun k => k < w.heap.size) w w' := by
 have rh := heavy11_any l n hln hnn a c (by omega) w h
 rw [decide_eq_false (by omega : ¬ 6000 < opsH l)] at rh
 have RG : Hid (∀ X, Kept (fun k => k < w.heap.size) w X -> Calls Tryz.prog 18 #[.slice a n c] X fun e w' => ∃ p r E M R G rk, e = .returned (.tuple #[.pointer (some ⟨p, 0, none⟩), .pointer (some ⟨r, 0, none⟩)]) /\ Grown (fun k => k < X.heap.size) E w' p r M R G rk 300 /\ Kept (fun k => k < X.heap.size) X w') := fun X hX => grown11 l n hln (by omega) a c hok (by omega) X (h.kept hX fun g hg => Nat.lt_of_lt_of_le hg hX.size)
 clear hln hok hb h
 go_enter Tryz.func5, Tryz.ntmps5
 go_wp2_with fail
 refine rh.mono ?_
 rintro e w1 ⟨rfl, k1⟩
 have rk0 := sknown_any w1
 clear rh
 go_wp2_with fail
 refine rk0.mono ?_
 rintro e w2 ⟨rfl, k2⟩
 have k12 : Kept (fun k => k < w.heap.size) w w2 := k1.trans (k2.mono fun k h => Nat.lt_of_lt_of_le h k1.size)
 have rg := RG.out w2 k12
 have HK12 : Hid (Kept (fun k => k < w.heap.size) w w2) := k12
 clear rk0 k1 k2 k12 RG
 go_wp2_with fail
 refine rg.mono ?_
 rintro e W ⟨p, r, E, M, R, G, rk, rfl, hG, hK⟩
 have HKW : Hid (Kept (fun k => k < w.heap.size) w W) := HK12.out.trans (hK.mono fun k h => Nat.lt_of_lt_of_le h HK12.out.size)
 obtain ⟨m, hm⟩ : ∃ m, M.n = m := ⟨_, rfl⟩
 have HM : Hid (M.n = m) := hm
 have hm300 : m <= 300 := by have h1 := hG.le; rw [hG.lim, hm] at h1; exact h1
 have RL : Hid (∀ X, Kept (fun k => k < W.heap.size) W X -> Calls Tryz.prog 19 #[.pointer (some ⟨p, 0, none⟩)] X fun e w' => e = .returned (.int .i64 (m : Int)) /\ w' = X) := fun X hX => by rw [<- hm]; exact hG.len hX
 have RD : Hid (∀ X, Kept (fun k => k < W.heap.size) W X -> Rd (TK (fun k => k < w2.heap.size) E) X p M R G rk) := fun X hX => hG.rd (by decide) hX
 have HI : Hid (Inv M R G rk) := hG.inv
 have hm1 : 1 <= m := by rw [<- hm]; exact hG.inv.core.pos
 have rl := RL.out W (Kept.refl _ _)
 obtain ⟨i, hi⟩ : ∃ i, za % m = i := ⟨_, rfl⟩
 have him : i < m := by rw [<- hi]; exact Nat.mod_lt _ (by omega)
 have hi' : (za : Int).tmod (m : Int) = (i : Int) := by rw [<- hi]; rfl
 have hin : i < M.n := by rw [hm]; exact him
 have HIN : Hid (i < M.n) := hin
 have rn := (RD.out W (Kept.refl _ _)).node hin
 have RT : Hid (∀ s, s < M.n -> ∀ X, Kept (fun k => k < W.heap.size) W X -> Calls Tryz.prog 30 #[.pointer (some ⟨r, 0, none⟩), .int .i64 (s : Int)] X (Lst X (tr M.n R s))) := fun s hs X hX => hG.pTree (by decide) hs hX
 have HC : Hid (FindC M R G i (findZ M R i)) := hG.inv.findC hin
 have HUPS : Hid ((M.pl i).up = -1 \/ ∃ u : Nat, u < M.n /\ (M.pl i).up = (u : Int)) := hG.inv.ups' hin
 have RF : Hid (∀ X, Kept (fun k => k < W.heap.size) W X -> Calls Tryz.prog 20 #[.pointer (some ⟨p, 0, none⟩), .int .i64 (i : Int)] X fun e w' => e = .returned (.int .i64 (findZ M R i)) /\ Kept (fun k => k < X.heap.size) X w') := fun X hX => by
  have := (RD.out X hX).find (i : Int)
  rw [findI_in HIN.out] at this
  exact this
 obtain ⟨Z, hZ⟩ : ∃ Z, findZ M R i = Z := ⟨_, rfl⟩
 rw [hZ] at HC RF
 clear rg hG hK hm hi hin hZ
 go_upto_region 7 with (go_at_call 19; refine rl.mono ?_; rintro e1 w3 ⟨rfl, hw3⟩; replace hw3 := hw3.symm; subst hw3)
 clear rl
 go_wp2_with fail
 refine rn.mono ?_
 rintro e v1 ⟨ao1, ac1, ko1, kc1, rfl, hO1, hQ1, hK1⟩
 obtain ⟨V1, N1, hV1, hN1, hB1⟩ := BoxN.of (up := (M.pl i).up) hO1 hQ1 hK1
 have HV1 : Hid (v1.alloc (.cells (nV (M.nd i) ao1 ac1 ((M.pl i).up) ko1 (R i).length kc1) 41) = V1) := hV1
 have HN1 : Hid (v1.heap.size = N1) := hN1
 have HB1 : Hid (BoxN W V1 N1 (M.nd i) ((M.pl i).up) (R i) ao1 ac1 ko1 kc1) := hB1
 have c4 := hB1.c4
 have HK1 : Hid (Kept (fun k => k < W.heap.size) W V1) := hB1.kept
 clear rn hO1 hQ1 hK1 hV1 hN1 hB1
 go_upto_region 8 with fail
 rw [HV1.out, HN1.out]
 clear HV1 HN1
 rcases HUPS.out with hu | ⟨u, hun, hu⟩
 ·have HE : Hid (Z = -1) := by
   cases HC.out with
   | none e _ => exact e
   | hand _ _ _ _ _ e _ _ _ => omega
   | name _ _ _ _ _ e _ _ _ => omega
  rw [hu] at c4
  have rn2 := (RD.out V1 HK1.out).noNode (i := -1) (.inl (by decide))
  clear hu
  go_wp2_with fail
  refine rn2.mono ?_
  rintro e v2 ⟨rfl, hK2⟩
  obtain ⟨V2, N2, hV2, hN2, hb2, hk2, -⟩ := alloc_box v2 zero14 41
  have k2 : Kept (fun k => k < W.heap.size) W V2 := (HK1.out.trans (hK2.mono fun k h => Nat.lt_of_lt_of_le h HK1.out.size)).trans (hk2.mono fun k h => Nat.lt_of_lt_of_le h (Nat.le_trans HK1.out.size hK2.size))
  have HK2 : Hid (Kept (fun k => k < W.heap.size) W V2) := k2
  have rf := RF.out V2 k2
  rw [HE.out] at rf
  have HV2 : Hid (v2.alloc (.cells zero14 41) = V2) := hV2
  have HN2 : Hid (v2.heap.size = N2) := hN2
  clear rn2 hV2 hN2 hb2 hk2 hK2 c4 k2
  go_upto_region 9 with fail
  rw [HV2.out, HN2.out]
  clear HV2 HN2
  go_wp2_with fail
  refine rf.mono ?_
  rintro e w4 ⟨rfl, hk4⟩
  clear rf
  go_wp2
  go_ret
  exact ⟨rfl, HKW.out.trans ((HK2.out.trans (hk4.mono fun k h => Nat.lt_of_lt_of_le h HK2.out.size)).mono fun k h => Nat.lt_of_lt_of_le h HKW.out.size)⟩
 ·rw [hu] at c4
  have HU : Hid ((M.pl i).up = (u : Int)) := hu
  have HUN : Hid (u < M.n) := hun
  have rn2 := (RD.out V1 HK1.out).node hun
  clear hu hun
  go_wp2_with fail
  refine rn2.mono ?_
  rintro e v2 ⟨ao2, ac2, ko2, kc2, rfl, hO2, hQ2, hK2⟩
  obtain ⟨V2, N2, hV2, hN2, hB2⟩ := BoxN.of (up := (M.pl u).up) hO2 hQ2 hK2
  have HV2 : Hid (v2.alloc (.cells (nV (M.nd u) ao2 ac2 ((M.pl u).up) ko2 (R u).length kc2) 41) = V2) := hV2
  have HN2 : Hid (v2.heap.size = N2) := hN2
  have HB2 : Hid (BoxN V1 V2 N2 (M.nd u) ((M.pl u).up) (R u) ao2 ac2 ko2 kc2) := hB2
  have d6 := hB2.c6
  have HB1b : Hid (BoxN W V2 N1 (M.nd i) (M.pl i).up (R i) ao1 ac1 ko1 kc1) := HB1.out.later hB2.kept
  have c0 := HB1b.out.c0
  have HK2 : Hid (Kept (fun k => k < W.heap.size) W V2) := HB1b.out.kept
  have HSH : Hid ((M.nd u).shadow = -1 \/ ∃ s : Nat, s < M.n /\ (M.nd u).shadow = (s : Int)) := (HI.out.core.shad u HUN.out).imp id fun ⟨s, h1, h2, _⟩ => ⟨s, h1, h2⟩
  obtain ⟨kd, hkd⟩ : ∃ kd, (M.nd i).kind = kd := ⟨_, rfl⟩
  have HKD : Hid ((M.nd i).kind = kd) := hkd
  rw [hkd] at c0
  clear rn2 hO2 hQ2 hK2 hV2 hN2 hB2 c4 hkd
  go_upto_region 9 with fail
  rw [HV2.out, HN2.out]
  clear HV2 HN2
  rcases HSH.out with hs | ⟨s, hsn, hs⟩
  ·have HE : Hid (Z = -1) := by
    cases HC.out with
    | none e _ => exact e
    | hand u' _ _ _ _ e1 e2 _ _ =>
     have : u' = u := by have := HU.out; omega
     subst this; omega
    | name u' _ _ _ _ e1 e2 _ _ =>
     have : u' = u := by have := HU.out; omega
     subst this; omega
   rw [hs] at d6
   have rf := RF.out V2 HK2.out
   rw [HE.out] at rf
   have e0 : decide ((-1 : Int) < 0) = true := by decide
   clear hs
   go_wp2_with fail
   refine rf.mono ?_
   rintro e w4 ⟨rfl, hk4⟩
   clear rf
   go_wp2
   go_ret
   exact ⟨rfl, HKW.out.trans ((HK2.out.trans (hk4.mono fun k h => Nat.lt_of_lt_of_le h HK2.out.size)).mono fun k h => Nat.lt_of_lt_of_le h HKW.out.size)⟩
  ·rw [hs] at d6
   have HS : Hid ((M.nd u).shadow = (s : Int)) := hs
   have HSN : Hid (s < M.n) := hsn
   have e0 : decide ((s : Int) < 0) = false := decide_eq_false (by omega)
   clear hs hsn
   by_cases csh : kd = 1 \/ kd = 2
   ·have HSB : Hid (showB (M.nd i) = true) := showB_iff.2 (by rw [HKD.out]; exact csh)
    have rn3 := (RD.out V2 HK2.out).node HSN.out
    have hgo : ((kd : Int) != 1 && (kd : Int) != 2) = false := by rcases csh with rfl | rfl <;> decide
    go_cut [67] (fun v wx => wx = V2 /\ v = .bool false)
    case first =>
     rcases csh with rfl | rfl
     ·go_wp2
      go_meet
      case rel => exact ⟨rfl, rfl⟩
     ·go_wp2
      go_meet
      case rel => exact ⟨rfl, rfl⟩
    case rest =>
    obtain ⟨hwc, rfl⟩ := hcut
    rw [hwc]
    clear hwc csh hgo c0
    go_wp2_with fail
    refine rn3.mono ?_
    rintro e v3 ⟨ao3, ac3, ko3, kc3, rfl, hO3, hQ3, hK3⟩
    obtain ⟨V3, N3, hV3, hN3, hB3⟩ := BoxN.of (up := (M.pl s).up) hO3 hQ3 hK3
    have HV3 : Hid (v3.alloc (.cells (nV (M.nd s) ao3 ac3 ((M.pl s).up) ko3 (R s).length kc3) 41) = V3) := hV3
    have HN3 : Hid (v3.heap.size = N3) := hN3
    have HB3 : Hid (BoxN V2 V3 N3 (M.nd s) ((M.pl s).up) (R s) ao3 ac3 ko3 kc3) := hB3
    have g10 := hB3.c10
    have HB1c : Hid (BoxN W V3 N1 (M.nd i) (M.pl i).up (R i) ao1 ac1 ko1 kc1) := HB1b.out.later hB3.kept
    have HB2c : Hid (BoxN V1 V3 N2 (M.nd u) (M.pl u).up (R u) ao2 ac2 ko2 kc2) := HB2.out.later hB3.kept
    have HK3 : Hid (Kept (fun k => k < W.heap.size) W V3) := HB1c.out.kept
    obtain ⟨mb, hmb⟩ : ∃ b, (M.nd s).fl.b = b := ⟨_, rfl⟩
    have HMB : Hid ((M.nd s).fl.b = mb) := hmb
    rw [hmb] at g10
    clear rn3 hO3 hQ3 hK3 hV3 hN3 hB3 d6 hmb HB2 HB1b
    go_upto_region 12 with fail
    rw [HV3.out, HN3.out]
    clear HV3 HN3
    cases mb with
    | true =>
     go_wp2
     go_ret
     exact ⟨rfl, HKW.out.trans (HK3.out.mono fun k h => Nat.lt_of_lt_of_le h HKW.out.size)⟩
    | false =>
     have HE : Hid (Z = fstS M R (atV slotN (M.nd i).attrs) s) := by
      cases HC.out with
      | none e c =>
       rcases c with c | c | ⟨u', _, c1, c2⟩
       ·rw [HSB.out] at c; cases c
       ·have := HU.out; omega
       ·have : u' = u := by have := HU.out; omega
        subst this; have := HS.out; omega
      | hand u' s' _ _ _ e1 e2 b e =>
       have : u' = u := by have := HU.out; omega
       subst this
       have : s' = s := by have := HS.out; omega
       subst this; rw [HMB.out] at b; cases b
      | name u' s' _ _ _ e1 e2 b e =>
       have : u' = u := by have := HU.out; omega
       subst this
       have : s' = s := by have := HS.out; omega
       subst this; exact e
     have rf := RF.out V3 HK3.out
     clear HSB
     go_wp2_with fail
     refine rf.mono ?_
     rintro e w4 ⟨rfl, hk4⟩
     have HB1d : Hid (BoxN W w4 N1 (M.nd i) (M.pl i).up (R i) ao1 ac1 ko1 kc1) := HB1c.out.later hk4
     have d6 := (HB2c.out.later hk4).c6
     rw [HS.out] at d6
     have HK4 : Hid (Kept (fun k => k < W.heap.size) W w4) := HB1d.out.kept
     have rt := RT.out s HSN.out w4 HK4.out
     have HLT : Hid (∀ x ∈ tr M.n R s, x < M.n) := fun x hx => tr_lt HI.out.good.falls _ s HSN.out x hx
     have hle := tr_len HI.out.good.only HSN.out
     obtain ⟨L, hL⟩ : ∃ L, tr M.n R s = L := ⟨_, rfl⟩
     rw [hL] at rt HLT hle
     rw [HM.out] at hle
     obtain ⟨nm, hnm⟩ : ∃ nm, atV slotN (M.nd i).attrs = nm := ⟨_, rfl⟩
     have HNM : Hid (atV slotN (M.nd i).attrs = nm) := hnm
     have HZ : Hid (Z = fstO (fun k => slNm nm (M.nd k)) L) := by rw [HE.out, <- hL, <- hnm]; exact rfl
     obtain ⟨ll, hll⟩ : ∃ ll, L.length = ll := ⟨_, rfl⟩
     have HLL : Hid (L.length = ll) := hll
     rw [hll] at hle
     clear rf hk4 hL hnm HE HB1c HB2c
     go_wp2_with fail
     refine rt.mono ?_
     rintro e w5 ⟨ta, tc, rfl, hTO, hk5⟩
     have HROW : Hid (IntsAt (fun g => g < w5.heap.size) w5 ta L) := hTO.intsAt fun g hg => (hTO.out hg).2
     have HB1e : Hid (BoxN W w5 N1 (M.nd i) (M.pl i).up (R i) ao1 ac1 ko1 kc1) := HB1d.out.later hk5
     rw [hll]
     clear rt hTO hk5 d6 hll HB1d
     go_upto_region 17 with fail
     obtain ⟨U, hU⟩ : ∃ U, w5 = U := ⟨_, rfl⟩
     rw [hU]
     rw [hU] at HROW HB1e
     clear hU
     go_loopg [16] ll (fun gh v16 wr => ∃ j : Nat, gh = ll - j /\ j <= ll /\ v16 = .int .i64 (j : Int) /\ (∀ x ∈ L.take j, slNm nm (M.nd x) = false) /\ Kept (fun k => k < U.heap.size) U wr)
     case atStart => exact ⟨0, rfl, Nat.zero_le _, rfl, fun x hx => by simp at hx, Kept.refl _ _⟩
     case round =>
      obtain ⟨j, hgj, hj, rfl, hno, hKj⟩ := hrel
      have HNO : Hid (∀ x ∈ L.take j, slNm nm (M.nd x) = false) := hno
      have HKJ : Hid (Kept (fun k => k < U.heap.size) U wr) := hKj
      have HBJ : Hid (BoxN W wr N1 (M.nd i) (M.pl i).up (R i) ao1 ac1 ko1 kc1) := HB1e.out.later hKj
      clear hno
      by_cases hlt : j < ll
      ·have hjL : j < L.length := by rw [HLL.out]; exact hlt
       obtain ⟨g, o, rfl, hg, dd⟩ := HROW.out j hjL
       have d' : wr.cell? ⟨g, o + j, none⟩ = some (.int .i64 (L[j] : Int)) := (hKj.cell (p := ⟨g, o + j, none⟩) hg).trans dd
       have hxn := HLT.out L[j] (List.getElem_mem hjL)
       have htk : L.take (j + 1) = L.take j ++ [L[j]] := List.take_succ_eq_append_getElem hjL
       have hsp : L = L.take j ++ (L[j] :: L.drop (j + 1)) := by rw [<- List.drop_eq_getElem_cons hjL, List.take_append_drop]
       obtain ⟨x, hx⟩ : ∃ x, L[j] = x := ⟨_, rfl⟩
       rw [hx] at d' hxn htk hsp
       have HTK : Hid (L.take (j + 1) = L.take j ++ [x]) := htk
       have HZX : Hid (slNm nm (M.nd x) = true -> Z = (x : Int)) := fun hp => by
        rw [HZ.out, hsp]
        unfold fstO
        rw [List.find?_append, List.find?_eq_none.2 (fun y hy => by rw [HNO.out y hy]; simp), List.find?_cons_of_pos (p := fun k => slNm nm (M.nd k)) hp]
        rfl
       have rn5 := (RD.out wr HBJ.out.kept).node hxn
       have HXN : Hid (x < M.n) := hxn
       have HDD : Hid (∀ X, Kept (fun k => k < wr.heap.size) wr X -> X.cell? ⟨g, o + j, none⟩ = some (.int .i64 (x : Int))) := fun X hX => (hX.cell (p := ⟨g, o + j, none⟩) (World.block_lt_of_cell? wr _ d')).trans d'
       clear dd hx hxn htk hsp hKj
       go_wp2_with fail
       refine rn5.mono ?_
       rintro e v6 ⟨ao6, ac6, ko6, kc6, rfl, hO6, hQ6, hK6⟩
       obtain ⟨V6, N6, hV6, hN6, hB6⟩ := BoxN.of (up := (M.pl x).up) hO6 hQ6 hK6
       have HV6 : Hid (v6.alloc (.cells (nV (M.nd x) ao6 ac6 ((M.pl x).up) ko6 (R x).length kc6) 41) = V6) := hV6
       have HN6 : Hid (v6.heap.size = N6) := hN6
       have HB6 : Hid (BoxN wr V6 N6 (M.nd x) ((M.pl x).up) (R x) ao6 ac6 ko6 kc6) := hB6
       have HBI : Hid (BoxN W V6 N1 (M.nd i) (M.pl i).up (R i) ao1 ac1 ko1 kc1) := HBJ.out.later hB6.kept
       have HK6 : Hid (Kept (fun k => k < wr.heap.size) wr V6) := hB6.kept
       obtain ⟨cx, hcx⟩ : ∃ cs, nV (M.nd x) ao6 ac6 (M.pl x).up ko6 (R x).length kc6 = cs := ⟨_, rfl⟩
       have hcxz : cx.size = 14 := by rw [<- hcx]; rfl
       obtain ⟨ci, hci⟩ : ∃ cs, nV (M.nd i) ao1 ac1 (M.pl i).up ko1 (R i).length kc1 = cs := ⟨_, rfl⟩
       have hciz : ci.size = 14 := by rw [<- hci]; rfl
       obtain ⟨kx, hkx⟩ : ∃ k, (M.nd x).kind = k := ⟨_, rfl⟩
       have HKX : Hid ((M.nd x).kind = kx) := hkx
       obtain ⟨nx, hnx⟩ : ∃ b, (⟨(M.nd x).name.toArray⟩ : ByteArray) = b := ⟨_, rfl⟩
       have HNX : Hid ((M.nd x).name = nx.toList) := by rw [<- hnx, ByteArray.toList_eq]; exact rfl
       have HX0 : Hid (∀ Y, Kept (fun k => k < V6.heap.size) V6 Y -> Y.cell? ⟨N6, 0, none⟩ = some (.int .u8 (kx : Int))) := fun Y hY => by rw [<- hkx]; exact (hB6.later hY).c0
       have HX1 : Hid (∀ Y, Kept (fun k => k < V6.heap.size) V6 Y -> Y.cell? ⟨N6, 1, none⟩ = some (.string nx)) := fun Y hY => by rw [<- hnx, cell_block (hB6.later hY).blk]; rfl
       have HXR : Hid (∀ Y, Kept (fun k => k < V6.heap.size) V6 Y -> Y.heap[N6]? = some (.cells cx 41 (0, 0))) := fun Y hY => by rw [<- hcx]; exact (hB6.later hY).blk
       have HIR : Hid (∀ Y, Kept (fun k => k < V6.heap.size) V6 Y -> Y.heap[N1]? = some (.cells ci 41 (0, 0))) := fun Y hY => by rw [<- hci]; exact (HBI.out.later hY).blk
       have R1 : Hid (∀ Y, Kept (fun k => k < V6.heap.size) V6 Y -> Calls Tryz.prog 31 #[.agg cx, .string ⟨#[110, 97, 109, 101]⟩] Y fun e w' => e = .returned (sv (atV nameN (M.nd x).attrs)) /\ Kept (fun k => k < Y.heap.size) Y w') := fun Y hY => by
        have := lattr_any (M.nd x) ao6 ac6 (M.pl x).up ko6 (R x).length kc6 ⟨#[110, 97, 109, 101]⟩ Y (HI.out.good.few x HXN.out) (hB6.later hY).ats
        rw [ByteArray.toList_eq, hcx] at this
        exact this
       have R2 : Hid (∀ Y, Kept (fun k => k < V6.heap.size) V6 Y -> Calls Tryz.prog 31 #[.agg ci, .string ⟨#[115, 108, 111, 116]⟩] Y fun e w' => e = .returned (sv nm) /\ Kept (fun k => k < Y.heap.size) Y w') := fun Y hY => by
        have := lattr_any (M.nd i) ao1 ac1 (M.pl i).up ko1 (R i).length kc1 ⟨#[115, 108, 111, 116]⟩ Y (HI.out.good.few i HIN.out) (HBI.out.later hY).ats
        rw [ByteArray.toList_eq, hci] at this
        rw [<- HNM.out]
        exact this
       obtain ⟨au, hau⟩ : ∃ b, (⟨(atV nameN (M.nd x).attrs).toArray⟩ : ByteArray) = b := ⟨_, rfl⟩
       have HAU : Hid (atV nameN (M.nd x).attrs = au.toList) := by rw [<- hau, ByteArray.toList_eq]; exact rfl
       obtain ⟨nu, hnu⟩ : ∃ b, (⟨nm.toArray⟩ : ByteArray) = b := ⟨_, rfl⟩
       have HNU : Hid (nm = nu.toList) := by rw [<- hnu, ByteArray.toList_eq]; exact rfl
       unfold sv at R1 R2
       rw [hau] at R1
       rw [hnu] at R2
       have hstep : ∀ f : Bool, slNm nm (M.nd x) = false -> (∀ y ∈ L.take (j + 1), slNm nm (M.nd y) = false) := fun _ hf y hy => by
        rw [HTK.out] at hy
        rcases List.mem_append.1 hy with h | h
        ·exact HNO.out y h
        ·rw [List.mem_singleton.1 h]; exact hf
       have HSTEP : Hid (slNm nm (M.nd x) = false -> (∀ y ∈ L.take (j + 1), slNm nm (M.nd y) = false)) := hstep true
       have HKU : Hid (∀ Y, Kept (fun k => k < V6.heap.size) V6 Y -> Kept (fun k => k < U.heap.size) U Y) := fun Y hY => (HKJ.out.trans (HK6.out.mono fun k h => Nat.lt_of_lt_of_le h HKJ.out.size)).trans (hY.mono fun k h => Nat.lt_of_lt_of_le h (Nat.le_trans HKJ.out.size HK6.out.size))
       clear rn5 hO6 hQ6 hK6 hV6 hN6 hB6 hcx hci hkx hnx hau hnu hstep d' HB6 HBI
       go_upto_region 20 with fail
       rw [HV6.out, HN6.out]
       clear HV6 HN6
       by_cases k1 : kx = 1
       ·subst k1
        obtain ⟨qs, hqs⟩ : ∃ q, (nx.toList == [115, 108, 111, 116]) = q := ⟨_, rfl⟩
        cases qs with
        | false =>
         have HF : Hid (slNm nm (M.nd x) = false) := by
          unfold slNm isSl
          rw [HNX.out, decide_eq_false (by simpa using hqs : ¬ nx.toList = slotN), Bool.and_false, Bool.false_and]
          exact rfl
         refine wp_region_held_drew (S := fun Y => Kept (fun k => k < V6.heap.size) V6 Y) (by kernel_rfl) ((Kept.refl _ V6).drew) (fun hHeld => ?_)
         refine tkH 0 104 (.pointer (some ⟨N6, 0, none⟩)) rfl rfl (by kernel_rfl) (by rfl) (by intro Y hY; go_simp; try with_reducible rfl) (fun _ _ _ h => h) hHeld ?_
         try simp only [Act.put, sA, s0, s1]
         refine tkH 1 105 (.int .u8 1) rfl rfl (by kernel_rfl) (by rfl) (by intro Y hY; have hc := HX0.out Y hY; go_simp; try with_reducible rfl) (fun _ _ _ h => h) hHeld ?_
         try simp only [Act.put, sA, s0, s1]
         refine tkH 2 106 (.bool true) rfl rfl (by kernel_rfl) (by rfl) (by intro Y hY; go_simp; try with_reducible rfl) (fun _ _ _ h => h) hHeld ?_
         try simp only [Act.put, sA, s0, s1]
         refine tkH 3 107 (.bool true) rfl rfl (by kernel_rfl) (by rfl) (by intro Y hY; go_simp; try with_reducible rfl) (fun _ _ _ h => h) hHeld ?_
         try simp only [Act.put, sA, s0, s1]
         refine tkH 4 108 (.pointer (some ⟨N6, 1, none⟩)) rfl rfl (by kernel_rfl) (by rfl) (by intro Y hY; go_simp; try with_reducible rfl) (fun _ _ _ h => h) hHeld ?_
         try simp only [Act.put, sA, s0, s1]
         refine tkH 5 109 (.string nx) rfl rfl (by kernel_rfl) (by rfl) (by intro Y hY; have hc := HX1.out Y hY; go_simp; try with_reducible rfl) (fun _ _ _ h => h) hHeld ?_
         try simp only [Act.put, sA, s0, s1]
         refine tkH 6 110 (.bool false) rfl rfl (by kernel_rfl) (by rfl) (by intro Y hY; go_simp; try with_reducible rfl) (fun _ _ _ h => h) hHeld ?_
         try simp only [Act.put, sA, s0, s1]
         refine tkH 7 111 (.bool false) rfl rfl (by kernel_rfl) (by rfl) (by intro Y hY; go_simp; try with_reducible rfl) (fun _ _ _ h => h) hHeld ?_
         try simp only [Act.put, sA, s0, s1]
         refine tkH 8 112 (.bool false) rfl rfl (by kernel_rfl) (by rfl) (by intro Y hY; go_simp; try with_reducible rfl) (fun _ _ _ h => h) hHeld ?_
         try simp only [Act.put, sA, s0, s1]
         refine tkU 9 113 rfl rfl (by kernel_rfl) (by rfl) (fun _ _ _ h => h) hHeld ?_
         try simp only [Act.put, sA, s0, s1]
         refine tkU 10 114 rfl rfl (by kernel_rfl) (by rfl) (fun _ _ _ h => h) hHeld ?_
         try simp only [Act.put, sA, s0, s1]
         refine tkU 11 115 rfl rfl (by kernel_rfl) (by rfl) (fun _ _ _ h => h) hHeld ?_
         try simp only [Act.put, sA, s0, s1]
         refine tkU 12 116 rfl rfl (by kernel_rfl) (by rfl) (fun _ _ _ h => h) hHeld ?_
         try simp only [Act.put, sA, s0, s1]
         refine tkU 13 117 rfl rfl (by kernel_rfl) (by rfl) (fun _ _ _ h => h) hHeld ?_
         try simp only [Act.put, sA, s0, s1]
         refine tkH 14 118 (.bool false) rfl rfl (by kernel_rfl) (by rfl) (by intro Y hY; go_simp; try with_reducible rfl) (fun _ _ _ h => h) hHeld ?_
         try simp only [Act.put, sA, s0, s1]
         refine wpAnyH_done (by kernel_rfl) ?_ _
         go_wp2
         go_roundg (ll - (j + 1))
         case rel => exact ⟨j + 1, rfl, by omega, by go_num, HSTEP.out HF.out, HKU.out _ hHeld⟩
         case measure => omega
        | true =>
         have hsl : isSl (M.nd x) = true := isSl_iff.2 ⟨HKX.out, by rw [HNX.out]; simpa using hqs⟩
         obtain ⟨qd, hqd⟩ : ∃ q, (au.toList == nu.toList) = q := ⟨_, rfl⟩
         have HP : Hid (slNm nm (M.nd x) = qd) := by
          unfold slNm
          rw [hsl, Bool.true_and, HAU.out, HNU.out, <- hqd]
          by_cases c : au.toList = nu.toList
          ·rw [decide_eq_true c, c]; exact (beq_self_eq_true _).symm
          ·rw [decide_eq_false c]; exact (beq_eq_false_iff_ne.2 c).symm
         clear hsl
         refine wp_region_held_drew (S := fun Y => Kept (fun k => k < V6.heap.size) V6 Y) (by kernel_rfl) ((Kept.refl _ V6).drew) (fun hHeld => ?_)
         refine tkH 0 104 (.pointer (some ⟨N6, 0, none⟩)) rfl rfl (by kernel_rfl) (by rfl) (by intro Y hY; go_simp; try with_reducible rfl) (fun _ _ _ h => h) hHeld ?_
         try simp only [Act.put, sA, s0, s1]
         refine tkH 1 105 (.int .u8 1) rfl rfl (by kernel_rfl) (by rfl) (by intro Y hY; have hc := HX0.out Y hY; go_simp; try with_reducible rfl) (fun _ _ _ h => h) hHeld ?_
         try simp only [Act.put, sA, s0, s1]
         refine tkH 2 106 (.bool true) rfl rfl (by kernel_rfl) (by rfl) (by intro Y hY; go_simp; try with_reducible rfl) (fun _ _ _ h => h) hHeld ?_
         try simp only [Act.put, sA, s0, s1]
         refine tkH 3 107 (.bool true) rfl rfl (by kernel_rfl) (by rfl) (by intro Y hY; go_simp; try with_reducible rfl) (fun _ _ _ h => h) hHeld ?_
         try simp only [Act.put, sA, s0, s1]
         refine tkH 4 108 (.pointer (some ⟨N6, 1, none⟩)) rfl rfl (by kernel_rfl) (by rfl) (by intro Y hY; go_simp; try with_reducible rfl) (fun _ _ _ h => h) hHeld ?_
         try simp only [Act.put, sA, s0, s1]
         refine tkH 5 109 (.string nx) rfl rfl (by kernel_rfl) (by rfl) (by intro Y hY; have hc := HX1.out Y hY; go_simp; try with_reducible rfl) (fun _ _ _ h => h) hHeld ?_
         try simp only [Act.put, sA, s0, s1]
         refine tkH 6 110 (.bool true) rfl rfl (by kernel_rfl) (by rfl) (by intro Y hY; go_simp; try with_reducible rfl) (fun _ _ _ h => h) hHeld ?_
         try simp only [Act.put, sA, s0, s1]
         refine tkH 7 111 (.bool true) rfl rfl (by kernel_rfl) (by rfl) (by intro Y hY; go_simp; try with_reducible rfl) (fun _ _ _ h => h) hHeld ?_
         try simp only [Act.put, sA, s0, s1]
         refine tkH 8 112 (.bool true) rfl rfl (by kernel_rfl) (by rfl) (by intro Y hY; go_simp; try with_reducible rfl) (fun _ _ _ h => h) hHeld ?_
         try simp only [Act.put, sA, s0, s1]
         refine tkH 9 113 (.agg cx) rfl rfl (by kernel_rfl) (by rfl) (by intro Y hY; exact yields_row rfl rfl (HXR.out Y hY) hcxz) (fun _ _ _ h => h) hHeld ?_
         try simp only [Act.put, sA, s0, s1]
         refine tkH 11 115 (.agg ci) rfl rfl (by kernel_rfl) (by rfl) (by intro Y hY; exact yields_row rfl rfl (HIR.out Y hY) hciz) (fun _ _ _ h => h) hHeld ?_
         try simp only [Act.put, sA, s0, s1]
         refine clH 10 114 31 #[.agg cx, .string ⟨#[110, 97, 109, 101]⟩] rfl rfl (by kernel_rfl) (by rfl) rfl (by first | rfl | (simp [Act.eval]; done) | (simp [Act.eval, Act.put]; done)) (enter31 _ _) (R1.out _ hHeld) ?_
         rintro e Y ⟨rfl, hk9⟩
         refine ⟨_, rfl, hHeld.trans (hk9.mono fun k h => Nat.lt_of_lt_of_le h hHeld.size), fun hHeld2 => ?_⟩
         replace hHeld := hHeld2
         clear hHeld2
         try simp only [Act.put, sA, s0, s1]
         refine clH 12 116 31 #[.agg ci, .string ⟨#[115, 108, 111, 116]⟩] rfl rfl (by kernel_rfl) (by rfl) rfl (by first | rfl | (simp [Act.eval]; done) | (simp [Act.eval, Act.put]; done)) (enter31 _ _) (R2.out _ hHeld) ?_
         rintro e Y2 ⟨rfl, hk9⟩
         refine ⟨_, rfl, hHeld.trans (hk9.mono fun k h => Nat.lt_of_lt_of_le h hHeld.size), fun hHeld2 => ?_⟩
         replace hHeld := hHeld2
         clear hHeld2
         try simp only [Act.put, sA, s0, s1]
         cases qd with
         | false =>
          have HF : Hid (slNm nm (M.nd x) = false) := HP.out
          refine tkH 13 117 (.bool false) rfl rfl (by kernel_rfl) (by rfl) (by intro Y hY; go_simp; try with_reducible rfl) (fun _ _ _ h => h) hHeld ?_
          try simp only [Act.put, sA, s0, s1]
          refine tkH 14 118 (.bool false) rfl rfl (by kernel_rfl) (by rfl) (by intro Y hY; go_simp; try with_reducible rfl) (fun _ _ _ h => h) hHeld ?_
          try simp only [Act.put, sA, s0, s1]
          refine wpAnyH_done (by kernel_rfl) ?_ _
          go_wp2
          go_roundg (ll - (j + 1))
          case rel => exact ⟨j + 1, rfl, by omega, by go_num, HSTEP.out HF.out, HKU.out _ hHeld⟩
          case measure => omega
         | true =>
          have hzx := HZX.out HP.out
          subst hzx
          refine tkH 13 117 (.bool true) rfl rfl (by kernel_rfl) (by rfl) (by intro Y hY; go_simp; try with_reducible rfl) (fun _ _ _ h => h) hHeld ?_
          try simp only [Act.put, sA, s0, s1]
          refine tkH 14 118 (.bool true) rfl rfl (by kernel_rfl) (by rfl) (by intro Y hY; go_simp; try with_reducible rfl) (fun _ _ _ h => h) hHeld ?_
          try simp only [Act.put, sA, s0, s1]
          refine wpAnyH_done (by kernel_rfl) ?_ _
          have d' := HDD.out Y2 (HK6.out.trans (hHeld.mono fun k h => Nat.lt_of_lt_of_le h HK6.out.size))
          have HKF : Hid (Kept (fun k => k < U.heap.size) U Y2) := HKU.out _ hHeld
          clear hk9 hHeld
          go_wp2
          go_ret
          exact ⟨by simp, HKW.out.trans ((HB1e.out.kept.trans (HKF.out.mono fun k h => Nat.lt_of_lt_of_le h HB1e.out.kept.size)).mono fun k h => Nat.lt_of_lt_of_le h HKW.out.size)⟩
       ·have e1 : ((kx : Int) == 1) = false := by simp; omega
        have HF : Hid (slNm nm (M.nd x) = false) := by
         unfold slNm isSl
         rw [HKX.out, decide_eq_false k1, Bool.false_and, Bool.false_and]
         exact rfl
        clear k1
        refine wp_region_held_drew (S := fun Y => Kept (fun k => k < V6.heap.size) V6 Y) (by kernel_rfl) ((Kept.refl _ V6).drew) (fun hHeld => ?_)
        refine tkH 0 104 (.pointer (some ⟨N6, 0, none⟩)) rfl rfl (by kernel_rfl) (by rfl) (by intro Y hY; go_simp; try with_reducible rfl) (fun _ _ _ h => h) hHeld ?_
        try simp only [Act.put, sA, s0, s1]
        refine tkH 1 105 (.int .u8 (kx : Int)) rfl rfl (by kernel_rfl) (by rfl) (by intro Y hY; have hc := HX0.out Y hY; go_simp; try with_reducible rfl) (fun _ _ _ h => h) hHeld ?_
        try simp only [Act.put, sA, s0, s1]
        refine tkH 2 106 (.bool false) rfl rfl (by kernel_rfl) (by rfl) (by intro Y hY; go_simp; try with_reducible rfl) (fun _ _ _ h => h) hHeld ?_
        try simp only [Act.put, sA, s0, s1]
        refine tkH 3 107 (.bool false) rfl rfl (by kernel_rfl) (by rfl) (by intro Y hY; go_simp; try with_reducible rfl) (fun _ _ _ h => h) hHeld ?_
        try simp only [Act.put, sA, s0, s1]
        refine tkU 4 108 rfl rfl (by kernel_rfl) (by rfl) (fun _ _ _ h => h) hHeld ?_
        try simp only [Act.put, sA, s0, s1]
        refine tkU 5 109 rfl rfl (by kernel_rfl) (by rfl) (fun _ _ _ h => h) hHeld ?_
        try simp only [Act.put, sA, s0, s1]
        refine tkU 6 110 rfl rfl (by kernel_rfl) (by rfl) (fun _ _ _ h => h) hHeld ?_
        try simp only [Act.put, sA, s0, s1]
        refine tkH 7 111 (.bool false) rfl rfl (by kernel_rfl) (by rfl) (by intro Y hY; go_simp; try with_reducible rfl) (fun _ _ _ h => h) hHeld ?_
        try simp only [Act.put, sA, s0, s1]
        refine tkH 8 112 (.bool false) rfl rfl (by kernel_rfl) (by rfl) (by intro Y hY; go_simp; try with_reducible rfl) (fun _ _ _ h => h) hHeld ?_
        try simp only [Act.put, sA, s0, s1]
        refine tkU 9 113 rfl rfl (by kernel_rfl) (by rfl) (fun _ _ _ h => h) hHeld ?_
        try simp only [Act.put, sA, s0, s1]
        refine tkU 10 114 rfl rfl (by kernel_rfl) (by rfl) (fun _ _ _ h => h) hHeld ?_
        try simp only [Act.put, sA, s0, s1]
        refine tkU 11 115 rfl rfl (by kernel_rfl) (by rfl) (fun _ _ _ h => h) hHeld ?_
        try simp only [Act.put, sA, s0, s1]
        refine tkU 12 116 rfl rfl (by kernel_rfl) (by rfl) (fun _ _ _ h => h) hHeld ?_
        try simp only [Act.put, sA, s0, s1]
        refine tkU 13 117 rfl rfl (by kernel_rfl) (by rfl) (fun _ _ _ h => h) hHeld ?_
        try simp only [Act.put, sA, s0, s1]
        refine tkH 14 118 (.bool false) rfl rfl (by kernel_rfl) (by rfl) (by intro Y hY; go_simp; try with_reducible rfl) (fun _ _ _ h => h) hHeld ?_
        try simp only [Act.put, sA, s0, s1]
        refine wpAnyH_done (by kernel_rfl) ?_ _
        go_wp2
        go_roundg (ll - (j + 1))
        case rel => exact ⟨j + 1, rfl, by omega, by go_num, HSTEP.out HF.out, HKU.out _ hHeld⟩
        case measure => omega
      ·have hjn : ll = j := by omega
       subst hjn
       have hz : Z = -1 := by
        rw [HZ.out]
        unfold fstO
        rw [List.find?_eq_none.2 (fun y hy => by rw [HNO.out y (by rw [List.take_of_length_le (by rw [HLL.out]; exact Nat.le_refl _)]; exact hy)]; simp)]
       subst hz
       clear hKj
       go_wp2
       go_ret
       exact ⟨rfl, HKW.out.trans (HBJ.out.kept.mono fun k h => Nat.lt_of_lt_of_le h HKW.out.size)⟩
   ·have HE : Hid (Z = -1) := by
     have hsb : showB (M.nd i) = false := by cases h : showB (M.nd i) with | false => rfl | true => exact absurd (by have := showB_iff.1 h; rw [HKD.out] at this; exact this) csh
     cases HC.out with
     | none e _ => exact e
     | hand _ _ _ _ h1 _ _ _ _ => rw [hsb] at h1; cases h1
     | name _ _ _ _ h1 _ _ _ _ => rw [hsb] at h1; cases h1
    have e1 : ((kd : Int) == 1) = false := by simp; omega
    have e2 : ((kd : Int) == 2) = false := by simp; omega
    have e1' : ((kd : Int) != 1) = true := by simp; omega
    have e2' : ((kd : Int) != 2) = true := by simp; omega
    have rf := RF.out V2 HK2.out
    rw [HE.out] at rf
    clear csh
    go_wp2_with fail
    refine rf.mono ?_
    rintro e w4 ⟨rfl, hk4⟩
    clear rf
    go_wp2
    go_ret
    exact ⟨rfl, HKW.out.trans ((HK2.out.trans (hk4.mono fun k h => Nat.lt_of_lt_of_le h HK2.out.size)).mono fun k h => Nat.lt_of_lt_of_le h HKW.out.size)⟩
theorem sfirst_no (a : Option Addr) (n c : Nat) (w : World) (za : Int) (rh : Calls Tryz.prog 16 #[.slice a n c] w fun e w' => e = .returned (.bool true) /\ Kept (fun k => k < w.heap.size) w w') :
  Calls Tryz.prog 5 #[.slice a n c, .int .u16 za] w fun e w' => e = .returned (.bool true) /\ Kept (fun k => k < w.heap.size) w w' := by
 go_enter Tryz.func5, Tryz.ntmps5
 go_wp2_with fail
 refine rh.mono ?_
 rintro e w1 ⟨rfl, k1⟩
 have rk0 := sknown_any w1
 clear rh
 go_wp2_with (go_at_call 17; refine rk0.mono ?_; rintro e w2 ⟨rfl, k2⟩)
 go_ret
 exact ⟨rfl, k1.trans (k2.mono fun k h => Nat.lt_of_lt_of_le h k1.size)⟩
end
end Go.Proofs.YtljnjdckhkglfaaGreat
