/-
  The document's own order.All.
-/
import Derived.Test.YtfeinppedejlpaaGreatVU1m
import Derived.Test.YtfeinppedejlpaaGreatVNam
namespace Go.Proofs.YtfeinppedejlpaaGreat
set_option maxHeartbeats 8000000
set_option maxRecDepth 100000
open Go.RowKit Go.Sort
set_option linter.unusedVariables false
theorem zro (K : Nat -> Prop) (p : Nat) (M : Dm) (R G : Nat -> List Nat) (rk : Nat -> Nat) (w : World) (h : RX K TT w p M R G) (hI : Inv M R G rk) (hn : M.n <= 100000) :
  ∀ (f i : Nat), dn M.n rk i < f -> i < M.n -> ∀ X, Kept (fun k => k < w.heap.size) w X -> Calls Tryz.prog 142 #[.pointer (some ⟨p, 0, none⟩), .int .i64 (i : Int)] X (Lst X (tr M.n (fwd M R) i)) := by
 intro f
 induction f with
 | zero => exact fun i h => absurd h (Nat.not_lt_zero _)
 | succ f ih =>
  intro i hf hi X hX
  have hO1 : Only M.n (fwd M R) rk := hI.only
  have IH : Hid (∀ x, x ∈ (fwd M R) i -> ∀ Y, Kept (fun k => k < X.heap.size) X Y -> Calls Tryz.prog 142 #[.pointer (some ⟨p, 0, none⟩), .int .i64 (x : Int)] Y (Lst Y (tr M.n (fwd M R) x))) := fun x hx Y hY => by
   have hf' := hO1.falls i hi x hx
   have := zdq hf'.1 hf'.2
   exact ih x (by omega) hf'.1 Y (kt hX hY)
  have HTX : Hid (∀ x, x ∈ (fwd M R) i -> (tr M.n (fwd M R) x).length <= 100000) := fun x hx => Nat.le_trans (zhn hO1 (hO1.falls i hi x hx).1) hn
  have HLE : Hid ((tr M.n (fwd M R) i).length <= 100000) := Nat.le_trans (zhn hO1 hi) hn
  have HEQ : Hid (tr M.n (fwd M R) i = i :: ((fwd M R) i).flatMap (tr M.n (fwd M R))) := zcr hO1.falls hi
  have rt := zk6 K p M R G (i : Int) X (h.kept hX)
  rw [zan hi] at rt
  obtain ⟨g, nc, ka, kc, hN⟩ := (h.kept hX).nodeAt hi
  have HN : Hid (∀ Y, Kept (fun k => k < X.heap.size) X Y -> Zqn M R p g nc i ka kc X.heap.size Y) := hN
  have HRL : Hid ((R i).length <= 100000) := by
   have h1 := zg8 M.n _ (hI.good.wf.nodup i hi) (fun x hx => hI.good.wf.lt i hi x hx)
   exact (show Hid _ from Nat.le_trans h1 hn)
  obtain ⟨V, hV⟩ : ∃ V, X.alloc (.cells #[.int .i64 (i : Int)] 3) = V := ⟨_, rfl⟩
  obtain ⟨N, hNN⟩ : ∃ N, X.heap.size = N := ⟨_, rfl⟩
  have hb : V.heap[N]? = some (.cells #[.int .i64 (i : Int)] 3 (0, 0)) := by rw [<- hV, <- hNN]; exact heap_alloc_new X _
  have HKV : Hid (Kept (fun k => k < X.heap.size) X V) := by rw [<- hV]; exact (Kept.refl _ X).alloc (fun _ h => h) _
  have HOV : Hid (Zac (fun k => k < X.heap.size) V 3 1 (some ⟨N, 0, none⟩) 1 1 (ivs [i])) := ⟨rfl, Nat.le_refl _, by unfold maxLen; omega, .inr ⟨N, _, rfl, by rw [hNN]; exact Nat.lt_irrefl _, hb, rfl, rfl⟩⟩
  have HV : Hid (X.alloc (.cells #[.int .i64 (i : Int)] 3) = V) := hV
  have HNN : Hid (X.heap.size = N) := hNN
  obtain ⟨m, hm⟩ : ∃ m, M.n = m := ⟨_, rfl⟩
  have HM : Hid (M.n = m) := hm
  have him : i < m := by rw [<- hm]; exact hi
  have hm1 : m <= 100000 := by rw [<- hm]; exact hn
  have SH := hI.core.shad i hi
  have HSH : Hid ((M.nd i).shadow = -1 \/ ∃ s : Nat, (M.nd i).shadow = (s : Int)) := SH.imp id fun ⟨s, _, e, _⟩ => ⟨s, e⟩
  clear SH
  clear ih hf hi hX hO1 hN hb hV hNN hm h hI hn
  go_enter Tryz.func142, Tryz.ntmps142
  go_upto_region 4 with (go_at_call 115; refine rt.mono ?_; rintro e1 w3 ⟨rfl, hw3⟩; replace hw3 := hw3.symm; subst hw3)
  rw [HV.out, HNN.out]
  clear rt HV HNN
  have hAV := HN.out V HKV.out
  have c1 := hAV.c1
  have c6 := hAV.c6
  rw [HM.out] at c1
  clear hAV
  rcases HSH.out with e | ⟨s, e⟩
  ·have HFW : Hid (fwd M R i = R i) := by unfold fwd; rw [if_pos e]; exact rfl
   rw [e] at c6
   clear e
   have HFIN : Hid ([i] ++ (R i).flatMap (tr M.n (fwd M R)) = tr M.n (fwd M R) i) := by have := HEQ.out; rw [HFW.out] at this; exact this.symm
   have HKU : Hid (Kept (fun k => k < X.heap.size) X V) := HKV
   have HU0 : Hid (Zac (fun k => k < X.heap.size) V 3 1 (some ⟨N, 0, none⟩) 1 1 (ivs [i])) := HOV
   have HB0 : Hid (([i] ++ ((R i).take 0).flatMap (tr M.n (fwd M R))).length = 1) := rfl
   have e0 : decide ((-1 : Int) >= 0) = false := by decide
   obtain ⟨kl, hkl⟩ : ∃ kl, (R i).length = kl := ⟨_, rfl⟩
   have HKL : Hid ((R i).length = kl) := hkl
   have hkl3 : kl <= 100000 := by rw [<- hkl]; exact HRL.out
   clear hkl
   go_upto_region 7 with fail
   go_loopg [5, 6] kl (fun gh v5 v6 wr => ∃ (j n c : Nat) (ao : Option Addr), gh = kl - j /\ j <= kl /\ v6 = .int .i64 (j : Int) /\ v5 = .slice ao n c /\ (([i]) ++ ((R i).take j).flatMap (tr M.n (fwd M R))).length = n /\ Zac (fun k => k < X.heap.size) wr 3 1 ao n c (ivs (([i]) ++ ((R i).take j).flatMap (tr M.n (fwd M R)))) /\ Kept (fun k => k < X.heap.size) X wr)
   case atStart => exact ⟨0, _, _, _, rfl, Nat.zero_le _, rfl, rfl, HB0.out, by rw [List.take_zero, List.flatMap_nil, List.append_nil]; exact HU0.out, HKU.out⟩
   case round =>
    obtain ⟨j, n, c, ao, hgj, hj, rfl, rfl, hln, hO, hK⟩ := hrel
    have hn9 : n <= 100000 := by
     rw [<- hln]
     refine Nat.le_trans (zn2 _ _ _ _) ?_
     rw [HFIN.out]
     exact HLE.out
    have hA := HN.out wr hK
    have c1 := hA.c1
    have c5 := hA.c5
    rw [HKL.out] at c5
    rw [HM.out] at c1
    by_cases hlt : j < kl
    ·have hjR : j < (R i).length := by rw [HKL.out]; exact hlt
     obtain ⟨q, o, hka, hq, d⟩ := hA.kid j hjR
     obtain ⟨x, hx⟩ : ∃ x, (R i)[j] = x := ⟨_, rfl⟩
     have hxF : x ∈ (fwd M R) i := by rw [<- hx]; exact zd8.2 (.inl (List.getElem_mem hjR))
     have htk := zhl (i := i) (tr M.n (fwd M R)) ([i]) (R i) hjR
     rw [hx] at d htk
     have d1 : wr.cell? ⟨q, o + j, none⟩ = some (.int .i64 (x : Int)) := d
     rw [hka] at c5
     have rx := IH.out x hxF wr hK
     have HT : Hid ((tr M.n (fwd M R) x).length <= 100000) := HTX.out x hxF
     have HK0 : Hid (Kept (fun k => k < X.heap.size) X wr) := hK
     have HO0 : Hid (Zac (fun k => k < X.heap.size) wr 3 1 ao n c (ivs (([i]) ++ ((R i).take j).flatMap (tr M.n (fwd M R))))) := hO
     have HTK : Hid (([i]) ++ ((R i).take (j + 1)).flatMap (tr M.n (fwd M R)) = (([i]) ++ ((R i).take j).flatMap (tr M.n (fwd M R))) ++ tr M.n (fwd M R) x) := htk
     have HLN : Hid ((([i]) ++ ((R i).take j).flatMap (tr M.n (fwd M R))).length = n) := hln
     clear hA hjR hka hq d hx hxF htk hK hO hln
     go_wp2_with fail
     refine rx.mono ?_
     rintro e w2 hL
     obtain ⟨ao2, c2, ao', c', w', rfl, hrun, hO', hK'⟩ := ziw HK0.out.size HO0.out hL (by omega) (Nat.le_trans HT.out (by decide))
     obtain ⟨tl, htl⟩ : ∃ tl, (tr M.n (fwd M R) x).length = tl := ⟨_, rfl⟩
     rw [htl] at hrun hO' ⊢
     have HTL : Hid ((tr M.n (fwd M R) x).length = tl) := htl
     have HO1 : Hid (Zac (fun k => k < X.heap.size) w' 3 1 ao' (n + tl) c' (ivs ((([i]) ++ ((R i).take j).flatMap (tr M.n (fwd M R))) ++ tr M.n (fwd M R) x))) := hO'
     have HK1 : Hid (Kept (fun k => k < X.heap.size) X w') := HK0.out.trans hK'
     clear rx hL hO' hK' htl c1 c5 d1
     go_wp2_with (at_builtin; refine zak (w' := w') rfl (.tmp 47) (.tmp 60) 33 33 rfl _ _ (.slice ao' (n + tl) c') rfl rfl hrun ?_)
     go_roundg (kl - (j + 1))
     case rel => exact ⟨j + 1, n + tl, c', ao', rfl, by omega, by go_num, rfl, by rw [HTK.out, List.length_append, HLN.out, HTL.out], by rw [HTK.out]; exact HO1.out, HK1.out⟩
     case measure => omega
    ·have hjn : j = kl := by omega
     subst hjn
     have hall : (R i).take j = R i := List.take_of_length_le (by rw [HKL.out]; exact Nat.le_refl _)
     rw [hall, HFIN.out] at hO hln
     have HO0 : Hid (Zac (fun k => k < X.heap.size) wr 3 1 ao n c (ivs (tr M.n (fwd M R) i))) := hO
     have HLN : Hid ((tr M.n (fwd M R) i).length = n) := hln
     have HK0 : Hid (Kept (fun k => k < X.heap.size) X wr) := hK
     clear hall hA hO hln hK
     go_wp2
     go_ret
     exact ⟨ao, c, by rw [HLN.out]; rfl, by rw [HLN.out]; exact HO0.out, HK0.out⟩
  ·have HFW : Hid (fwd M R i = s :: R i) := by unfold fwd; rw [if_neg (by omega), e, Int.toNat_natCast]; exact rfl
   rw [e] at c6
   clear e
   have hsF : s ∈ fwd M R i := by rw [HFW.out]; exact List.mem_cons_self ..
   have HFIN : Hid ((i :: tr M.n (fwd M R) s) ++ (R i).flatMap (tr M.n (fwd M R)) = tr M.n (fwd M R) i) := by have := HEQ.out; rw [HFW.out, List.flatMap_cons] at this; exact this.symm
   have rs := IH.out s hsF V HKV.out
   have HTS : Hid ((tr M.n (fwd M R) s).length <= 100000) := HTX.out s hsF
   have e0 : decide ((s : Int) >= 0) = true := decide_eq_true (by omega)
   clear hsF
   go_wp2_with fail
   refine rs.mono ?_
   rintro e w2 hL
   obtain ⟨ao2, c2, ao0, c0, U, rfl, hrun, hO', hK'⟩ := ziw HKV.out.size HOV.out hL (by omega) (Nat.le_trans HTS.out (by decide))
   obtain ⟨sl, hsl⟩ : ∃ sl, (tr M.n (fwd M R) s).length = sl := ⟨_, rfl⟩
   rw [hsl] at hrun hO' ⊢
   have HB0 : Hid (((i :: tr M.n (fwd M R) s) ++ ((R i).take 0).flatMap (tr M.n (fwd M R))).length = 1 + sl) := by
    rw [List.take_zero, List.flatMap_nil, List.append_nil, List.length_cons, hsl, Nat.add_comm]; exact rfl
   have HU0 : Hid (Zac (fun k => k < X.heap.size) U 3 1 ao0 (1 + sl) c0 (ivs (i :: tr M.n (fwd M R) s))) := hO'
   have HKU : Hid (Kept (fun k => k < X.heap.size) X U) := HKV.out.trans hK'
   clear rs hL hO' hK' hsl c1 c6
   go_upto_region 6 with (at_builtin; refine zak (w' := U) rfl (.tmp 22) (.tmp 32) 33 33 rfl _ _ (.slice ao0 (1 + sl) c0) rfl rfl hrun ?_)
   obtain ⟨kl, hkl⟩ : ∃ kl, (R i).length = kl := ⟨_, rfl⟩
   have HKL : Hid ((R i).length = kl) := hkl
   have hkl3 : kl <= 100000 := by rw [<- hkl]; exact HRL.out
   clear hkl
   go_upto_region 7 with fail
   go_loopg [5, 6] kl (fun gh v5 v6 wr => ∃ (j n c : Nat) (ao : Option Addr), gh = kl - j /\ j <= kl /\ v6 = .int .i64 (j : Int) /\ v5 = .slice ao n c /\ ((i :: tr M.n (fwd M R) s) ++ ((R i).take j).flatMap (tr M.n (fwd M R))).length = n /\ Zac (fun k => k < X.heap.size) wr 3 1 ao n c (ivs ((i :: tr M.n (fwd M R) s) ++ ((R i).take j).flatMap (tr M.n (fwd M R)))) /\ Kept (fun k => k < X.heap.size) X wr)
   case atStart => exact ⟨0, _, _, _, rfl, Nat.zero_le _, rfl, rfl, HB0.out, by rw [List.take_zero, List.flatMap_nil, List.append_nil]; exact HU0.out, HKU.out⟩
   case round =>
    obtain ⟨j, n, c, ao, hgj, hj, rfl, rfl, hln, hO, hK⟩ := hrel
    have hn9 : n <= 100000 := by
     rw [<- hln]
     refine Nat.le_trans (zn2 _ _ _ _) ?_
     rw [HFIN.out]
     exact HLE.out
    have hA := HN.out wr hK
    have c1 := hA.c1
    have c5 := hA.c5
    rw [HKL.out] at c5
    rw [HM.out] at c1
    by_cases hlt : j < kl
    ·have hjR : j < (R i).length := by rw [HKL.out]; exact hlt
     obtain ⟨q, o, hka, hq, d⟩ := hA.kid j hjR
     obtain ⟨x, hx⟩ : ∃ x, (R i)[j] = x := ⟨_, rfl⟩
     have hxF : x ∈ (fwd M R) i := by rw [<- hx]; exact zd8.2 (.inl (List.getElem_mem hjR))
     have htk := zhl (i := i) (tr M.n (fwd M R)) (i :: tr M.n (fwd M R) s) (R i) hjR
     rw [hx] at d htk
     have d1 : wr.cell? ⟨q, o + j, none⟩ = some (.int .i64 (x : Int)) := d
     rw [hka] at c5
     have rx := IH.out x hxF wr hK
     have HT : Hid ((tr M.n (fwd M R) x).length <= 100000) := HTX.out x hxF
     have HK0 : Hid (Kept (fun k => k < X.heap.size) X wr) := hK
     have HO0 : Hid (Zac (fun k => k < X.heap.size) wr 3 1 ao n c (ivs ((i :: tr M.n (fwd M R) s) ++ ((R i).take j).flatMap (tr M.n (fwd M R))))) := hO
     have HTK : Hid ((i :: tr M.n (fwd M R) s) ++ ((R i).take (j + 1)).flatMap (tr M.n (fwd M R)) = ((i :: tr M.n (fwd M R) s) ++ ((R i).take j).flatMap (tr M.n (fwd M R))) ++ tr M.n (fwd M R) x) := htk
     have HLN : Hid (((i :: tr M.n (fwd M R) s) ++ ((R i).take j).flatMap (tr M.n (fwd M R))).length = n) := hln
     clear hA hjR hka hq d hx hxF htk hK hO hln
     go_wp2_with fail
     refine rx.mono ?_
     rintro e w2 hL
     obtain ⟨ao2, c2, ao', c', w', rfl, hrun, hO', hK'⟩ := ziw HK0.out.size HO0.out hL (by omega) (Nat.le_trans HT.out (by decide))
     obtain ⟨tl, htl⟩ : ∃ tl, (tr M.n (fwd M R) x).length = tl := ⟨_, rfl⟩
     rw [htl] at hrun hO' ⊢
     have HTL : Hid ((tr M.n (fwd M R) x).length = tl) := htl
     have HO1 : Hid (Zac (fun k => k < X.heap.size) w' 3 1 ao' (n + tl) c' (ivs (((i :: tr M.n (fwd M R) s) ++ ((R i).take j).flatMap (tr M.n (fwd M R))) ++ tr M.n (fwd M R) x))) := hO'
     have HK1 : Hid (Kept (fun k => k < X.heap.size) X w') := HK0.out.trans hK'
     clear rx hL hO' hK' htl c1 c5 d1
     go_wp2_with (at_builtin; refine zak (w' := w') rfl (.tmp 47) (.tmp 60) 33 33 rfl _ _ (.slice ao' (n + tl) c') rfl rfl hrun ?_)
     go_roundg (kl - (j + 1))
     case rel => exact ⟨j + 1, n + tl, c', ao', rfl, by omega, by go_num, rfl, by rw [HTK.out, List.length_append, HLN.out, HTL.out], by rw [HTK.out]; exact HO1.out, HK1.out⟩
     case measure => omega
    ·have hjn : j = kl := by omega
     subst hjn
     have hall : (R i).take j = R i := List.take_of_length_le (by rw [HKL.out]; exact Nat.le_refl _)
     rw [hall, HFIN.out] at hO hln
     have HO0 : Hid (Zac (fun k => k < X.heap.size) wr 3 1 ao n c (ivs (tr M.n (fwd M R) i))) := hO
     have HLN : Hid ((tr M.n (fwd M R) i).length = n) := hln
     have HK0 : Hid (Kept (fun k => k < X.heap.size) X wr) := hK
     clear hall hA hO hln hK
     go_wp2
     go_ret
     exact ⟨ao, c, by rw [HLN.out]; rfl, by rw [HLN.out]; exact HO0.out, HK0.out⟩
end Go.Proofs.YtfeinppedejlpaaGreat
