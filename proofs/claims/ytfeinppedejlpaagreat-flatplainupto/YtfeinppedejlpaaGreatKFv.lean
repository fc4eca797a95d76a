/-
  The document's own flat: Up, Walk.
-/
import Derived.Test.YtfeinppedejlpaaGreatKFw
namespace Go.Proofs.YtfeinppedejlpaaGreat
set_option maxRecDepth 100000
open Go.RowKit Go.Sort
set_option linter.unusedVariables false
set_option maxRecDepth 20000
set_option maxHeartbeats 4000000
section
variable {K : Nat -> Prop} {w : World} {p : Nat} {M : Dm} {R G : Nat -> List Nat} {rk : Nat -> Nat}
theorem Rr.fup (h : Rr K w p M R G rk) (z : Int) : Calls Tryz.prog 47 #[.pointer (some ⟨p, 0, none⟩), .int .i64 z] w fun e w' => e = .returned (.int .i64 (upI M R G z)) /\ Kept (fun k => k < w.heap.size) w w' := by
 by_cases c : z < 0 \/ (M.n : Int) <= z
 ·have hE : upI M R G z = -1 := by unfold upI; rw [if_pos c]
  rw [hE]
  obtain ⟨A, hY⟩ := h.r
  have c1 := hY.c1
  obtain ⟨m, hm⟩ : ∃ m, M.n = m := ⟨_, rfl⟩
  rw [hm] at c1 c
  clear hY h hm hE
  by_cases h0 : z < 0
  ·have e0 : decide (z < 0) = true := decide_eq_true h0
   clear c h0
   go_enter Tryz.func47, Tryz.ntmps47
   go_wp2
   go_ret
   exact ⟨rfl, Kept.refl _ _⟩
  ·have e0 : decide (z < 0) = false := decide_eq_false h0
   have e1 : decide (z >= (m : Int)) = true := decide_eq_true (by omega)
   clear c h0
   go_enter Tryz.func47, Tryz.ntmps47
   go_wp2
   go_ret
   exact ⟨rfl, Kept.refl _ _⟩
 ·obtain ⟨i, rfl⟩ : ∃ i : Nat, z = (i : Int) := ⟨z.toNat, by omega⟩
  have hi : i < M.n := by omega
  rw [zj3 hi]
  have hle := h.le
  have e0 : decide ((i : Int) < 0) = false := decide_eq_false (by omega)
  have e1 : decide ((i : Int) >= (M.n : Int)) = false := decide_eq_false (by omega)
  obtain ⟨g, nc, hrow⟩ := h.r.rowAt
  obtain ⟨aa, ac, ka, kc, hY⟩ := hrow i hi
  have c1 := (hY w (Kept.refl _ _)).1
  have c4 : w.cell? ⟨g, i * 14 + 4, none⟩ = some (.int .i64 (M.pl i).up) := (hY w (Kept.refl _ _)).2.1 4 _ rfl
  rcases h.inv.ups' hi with hu | ⟨u, hun, hu⟩
  ·have hZ : upZ M R G i = -1 := by unfold upZ; rw [if_pos hu]
   rw [hZ]
   rw [hu] at c4
   obtain ⟨m, hm⟩ : ∃ m, M.n = m := ⟨_, rfl⟩
   rw [hm] at c1 hi hle e1
   have e2 : decide ((-1 : Int) < 0) = true := by decide
   clear h hrow hY hu hZ hm c
   go_enter Tryz.func47, Tryz.ntmps47
   go_wp2
   go_ret
   exact ⟨rfl, Kept.refl _ _⟩
  ·rw [hu] at c4
   have e2 : decide ((u : Int) < 0) = false := decide_eq_false (by omega)
   obtain ⟨ua, uc, uk, ukc, hUY⟩ := hrow u hun
   have c0 : w.cell? ⟨g, u * 14, none⟩ = some (.int .u8 ((M.nd u).kind : Int)) := (hUY w (Kept.refl _ _)).2.1 0 _ rfl
   have c6 : w.cell? ⟨g, u * 14 + 6, none⟩ = some (.int .i64 (M.nd u).shadow) := (hUY w (Kept.refl _ _)).2.1 6 _ rfl
   have c7 : w.cell? ⟨g, u * 14 + 7, none⟩ = some (.int .i64 (M.nd u).host) := (hUY w (Kept.refl _ _)).2.1 7 _ rfl
   have hZ : upZ M R G i = if (M.nd u).kind = 5 then (M.nd u).host else if (M.nd u).shadow ≠ -1 then zbi M R i else if za8 M R G u = [] then (u : Int) else -1 := by
    unfold upZ; rw [if_neg (by omega), hu, Int.toNat_natCast]
   have hsh := h.inv.sh hun
   have rf := h.find_in hi
   have ra := h.asg_in hun
   obtain ⟨Z, hZZ⟩ : ∃ Z, upZ M R G i = Z := ⟨_, rfl⟩
   rw [hZZ] at hZ ⊢
   obtain ⟨F, hF⟩ : ∃ F, zbi M R i = F := ⟨_, rfl⟩
   rw [hF] at hZ rf
   obtain ⟨L, hL⟩ : ∃ L, za8 M R G u = L := ⟨_, rfl⟩
   rw [hL] at hZ ra
   obtain ⟨ll, hll⟩ : ∃ ll, L.length = ll := ⟨_, rfl⟩
   have HLL : Hid (L.length = ll) := hll
   obtain ⟨kd, hkd⟩ : ∃ kd, (M.nd u).kind = kd := ⟨_, rfl⟩
   rw [hkd] at hZ c0
   obtain ⟨m, hm⟩ : ∃ m, M.n = m := ⟨_, rfl⟩
   rw [hm] at c1 hi hle e1 hun
   by_cases k5 : kd = 5
   ·rw [if_pos k5] at hZ
    subst k5
    clear h hrow hY hUY hu hZZ hF hL hll hkd hm c hsh rf ra c6
    obtain ⟨ho, hho⟩ : ∃ ho, (M.nd u).host = ho := ⟨_, rfl⟩
    rw [hho] at c7 hZ
    subst hZ
    clear hho
    go_enter Tryz.func47, Tryz.ntmps47
    go_wp2
    go_ret
    exact ⟨rfl, Kept.refl _ _⟩
   ·rw [if_neg k5] at hZ
    have e3 : ((kd : Int) == 5) = false := by simp; omega
    rcases hsh with hs | ⟨s, hsn, hs⟩
    ·rw [hs, if_neg (by simp)] at hZ
     rw [hs] at c6
     have e4 : decide ((-1 : Int) >= 0) = false := by decide
     clear h hrow hY hUY hu hZZ hF hkd hm c rf c7 hs
     have HZ : Hid (Z = if L = [] then (u : Int) else -1) := hZ
     by_cases hl0 : L = []
     ·subst hl0
      have h0 : ll = 0 := by rw [<- hll]; rfl
      subst h0
      have hz : Z = (u : Int) := by rw [hZ, if_pos rfl]
      subst hz
      clear hZ HZ hL hll
      have e5 : decide (((0 : Nat) : Int) > 0) = false := by decide
      go_enter Tryz.func47, Tryz.ntmps47
      go_wp2_with fail
      refine ra.mono ?_
      rintro e w2 ⟨la, lc, rfl, hLO, hk2⟩
      have HK2 : Hid (Kept (fun k => k < w.heap.size) w w2) := hk2
      clear ra hLO hk2
      go_wp2
      go_ret
      exact ⟨rfl, HK2.out⟩
     ·have hz : Z = -1 := by rw [hZ, if_neg hl0]
      subst hz
      have hlp : 0 < L.length := List.length_pos_iff.2 hl0
      rw [hll] at hlp
      have e5 : decide ((ll : Int) > 0) = true := decide_eq_true (by omega)
      clear hZ HZ hL hl0 hll
      go_enter Tryz.func47, Tryz.ntmps47
      go_wp2_with fail
      refine ra.mono ?_
      rintro e w2 ⟨la, lc, rfl, hLO, hk2⟩
      rw [HLL.out]
      have HK2 : Hid (Kept (fun k => k < w.heap.size) w w2) := hk2
      clear ra hLO hk2
      go_wp2
      go_ret
      exact ⟨rfl, HK2.out⟩
    ·rw [hs, if_pos (by omega)] at hZ
     subst hZ
     rw [hs] at c6
     have e4 : decide ((s : Int) >= 0) = true := decide_eq_true (by omega)
     clear h hrow hY hUY hu hF hL hll hkd hm c ra c7 hs hsn hZZ
     go_enter Tryz.func47, Tryz.ntmps47
     go_wp2_with fail
     refine rf.mono ?_
     rintro e w2 ⟨rfl, hk2⟩
     clear rf
     go_wp2
     go_ret
     exact ⟨rfl, hk2⟩
theorem zq4 {K0 : Nat -> Prop} {wr w2 : World} {ao : Option Addr} {n c : Nat} {Q T : List Nat} {e : Ending} (hX : ∀ k, K0 k -> k < wr.heap.size) (hO : Zac K0 wr 3 1 ao n c (ivs Q)) (hL : Lst wr T e w2) (hn : n <= 100000000) (hm : T.length <= 100000000) :
  ∃ ao2 c2 ao' c' w', e = .returned (.slice ao2 T.length c2) /\ (Builtin.append_ #[33, 33] 33 #[.slice ao n c, .slice ao2 T.length c2]).run Tryz.prog w2 = .ok (.slice ao' (n + T.length) c') w' /\ Zac K0 w' 3 1 ao' (n + T.length) c' (ivs (Q ++ T)) /\ Kept K0 wr w' := by
 obtain ⟨ao2, c2, rfl, hT, hk⟩ := hL
 have hO2 : Zac K0 w2 3 1 ao n c (ivs Q) := hO.to (fun q hq => (hO.out hq).1) (fun q hq => hk.block q (hO.out hq).2)
 obtain ⟨ao', c', w', h1, h2, h3⟩ := zcf (ac := c2) hO2 rfl (hT.intsAt (F := fun _ => True) fun _ _ => trivial) (fun k h => ltl (hX k h) hk.size) hn hm
 exact ⟨ao2, c2, ao', c', w', rfl, h1, h2, (hk.mono fun k h => hX k h).trans h3⟩
theorem Rr.fwalk_in (h : Rr K w p M R G rk) :
  ∀ (f i : Nat), dn M.n (rkA M R) i < f -> i < M.n -> ∀ X, Kept (fun k => k < w.heap.size) w X -> Calls Tryz.prog 48 #[.pointer (some ⟨p, 0, none⟩), .int .i64 (i : Int)] X (Lst X (tr M.n (fK M R G) i)) := by
 intro f
 induction f with
 | zero => exact fun i h => absurd h (Nat.not_lt_zero _)
 | succ f ih =>
  intro i hf hi X hX
  have HF := h.inv.fK_falls (G := G)
  have IH : Hid (∀ x, x ∈ fK M R G i -> ∀ Y, Kept (fun k => k < X.heap.size) X Y -> Calls Tryz.prog 48 #[.pointer (some ⟨p, 0, none⟩), .int .i64 (x : Int)] Y (Lst Y (tr M.n (fK M R G) x))) := fun x hx Y hY => by
   have hf' := HF i hi x hx
   have := zfh hf'.1 hf'.2
   exact ih x (by omega) hf'.1 Y (kt hX hY)
  have HTX : Hid (∀ x, x ∈ fK M R G i -> (tr M.n (fK M R G) x).length <= 100000) := fun x hx => Nat.le_trans (h.inv.walk_len (HF i hi x hx).1) h.le
  have HLE : Hid ((tr M.n (fK M R G) i).length <= 100000) := Nat.le_trans (h.inv.walk_len hi) h.le
  have HEQ : Hid ([i] ++ (fK M R G i).flatMap (tr M.n (fK M R G)) = tr M.n (fK M R G) i) := (zcz HF hi).symm
  have HRL : Hid ((fK M R G i).length <= 100000) := by
   have h1 := za4 M.n _ (h.inv.fK_nd hi) (fun x hx => (HF i hi x hx).1)
   exact (show Hid _ from Nat.le_trans h1 h.le)
  obtain ⟨A, hY⟩ := (h.kept hX).r
  have c1 := hY.c1
  obtain ⟨V, hV⟩ : ∃ V, X.alloc (.cells #[.int .i64 (i : Int)] 3) = V := ⟨_, rfl⟩
  obtain ⟨N, hNN⟩ : ∃ N, X.heap.size = N := ⟨_, rfl⟩
  have hb : V.heap[N]? = some (.cells #[.int .i64 (i : Int)] 3 (0, 0)) := by rw [<- hV, <- hNN]; exact heap_alloc_new X _
  have hKV : Kept (fun k => k < X.heap.size) X V := by rw [<- hV]; exact (Kept.refl _ X).alloc (fun _ h => h) _
  have HKV : Hid (Kept (fun k => k < X.heap.size) X V) := hKV
  have HOV : Hid (Zac (fun k => k < X.heap.size) V 3 1 (some ⟨N, 0, none⟩) 1 1 (ivs [i])) := ⟨rfl, Nat.le_refl _, by unfold maxLen; omega, .inr ⟨N, _, rfl, by rw [hNN]; exact Nat.lt_irrefl _, hb, rfl, rfl⟩⟩
  have HV : Hid (X.alloc (.cells #[.int .i64 (i : Int)] 3) = V) := hV
  have HNN : Hid (X.heap.size = N) := hNN
  have rkk := (h.kept (kt hX hKV)).fkids (i : Int)
  rw [zex hi] at rkk
  obtain ⟨F, hF⟩ : ∃ F, fK M R G i = F := ⟨_, rfl⟩
  have hle := h.le
  obtain ⟨T, hT⟩ : ∃ T : Nat -> List Nat, tr M.n (fK M R G) = T := ⟨_, rfl⟩
  rw [hF] at rkk
  rw [hF, hT] at IH HTX HEQ
  rw [hF] at HRL
  rw [hT] at HLE ⊢
  obtain ⟨m, hm⟩ : ∃ m, M.n = m := ⟨_, rfl⟩
  rw [hm] at c1 hi hle
  have e0 : decide ((i : Int) < 0) = false := decide_eq_false (by omega)
  have e1 : decide ((i : Int) >= (m : Int)) = false := decide_eq_false (by omega)
  obtain ⟨fl, hfl⟩ : ∃ fl, F.length = fl := ⟨_, rfl⟩
  have HFL : Hid (F.length = fl) := hfl
  have hfl9 : fl <= 100000 := by rw [<- hfl]; exact HRL.out
  have hVS : V.heap.size = N + 1 := by rw [<- hV, <- hNN]; exact Array.size_push ..
  have HVS : Hid (V.heap.size = N + 1) := hVS
  have HXN : Hid (X.heap.size = N) := hNN
  clear ih hf hX HF hY hV hNN hb hKV hF hT hm hfl h hVS
  go_enter Tryz.func48, Tryz.ntmps48
  go_upto_region 4 with fail
  rw [HV.out, HNN.out]
  clear HV HNN
  go_wp2_with fail
  refine rkk.mono ?_
  rintro e1 w2 ⟨la, lc, rfl, hLO, hk2⟩
  rw [HFL.out]
  obtain ⟨K', hK'⟩ : ∃ K' : Nat -> Prop, K' = fun k => k < X.heap.size \/ (V.heap.size <= k /\ k < w2.heap.size) := ⟨_, rfl⟩
  have HKX : Hid (∀ k, k < X.heap.size -> K' k) := by rw [hK']; exact fun k h => .inl h
  have HKW : Hid (∀ k, K' k -> k < w2.heap.size) := by
   rw [hK']
   rintro k (h | h)
   ·exact ltl h (Nat.le_trans HKV.out.size hk2.size)
   ·exact h.2
  have HRW : Hid (Zad K' w2 la F) := by
   rw [hK']
   exact hLO.intsAt fun g hg => .inr ⟨Nat.le_of_not_lt (hLO.out hg).1, (hLO.out hg).2⟩
  have HU0 : Hid (Zac K' w2 3 1 (some ⟨N, 0, none⟩) 1 1 (ivs [i])) := by
   refine (show Hid _ from ?_)
   refine HOV.out.to (fun q hq => ?_) (fun q hq => hk2.block q (HOV.out.out hq).2)
   have h1 := HOV.out.out hq
   have h2 := HVS.out
   have h3 := HXN.out
   rw [hK']
   have h4 := h1.1
   have h5 := h1.2
   omega
  have HK2 : Hid (Kept (fun k => k < X.heap.size) X w2) := kt HKV.out hk2
  clear hK' rkk hLO hk2 HOV HVS HXN
  go_upto_region 6 with fail
  go_loopg [5, 7] fl (fun gh v5 v7 wr => ∃ (j n c : Nat) (ao : Option Addr), gh = fl - j /\ j <= fl /\ v7 = .int .i64 (j : Int) /\ v5 = .slice ao n c /\ ([i] ++ (F.take j).flatMap T).length = n /\ Zac K' wr 3 1 ao n c (ivs ([i] ++ (F.take j).flatMap T)) /\ Kept K' w2 wr)
  case atStart => exact ⟨0, 1, 1, some ⟨N, 0, none⟩, rfl, Nat.zero_le _, rfl, rfl, rfl, by rw [List.take_zero, List.flatMap_nil, List.append_nil]; exact HU0.out, Kept.refl _ _⟩
  case round =>
   obtain ⟨j, n, c, ao, hgj, hj, rfl, rfl, hln, hO, hK⟩ := hrel
   have hn9 : n <= 100000 := by
    rw [<- hln]
    refine Nat.le_trans (zn0 _ _ _ _) ?_
    rw [HEQ.out]
    exact HLE.out
   have HKA : Hid (Kept (fun k => k < X.heap.size) X wr) := HK2.out.trans (hK.mono HKX.out)
   by_cases hlt : j < fl
   ·have hjR : j < F.length := by rw [HFL.out]; exact hlt
    obtain ⟨q, o, rfl, hq, d⟩ := HRW.out j hjR
    obtain ⟨x, hx⟩ : ∃ x, F[j] = x := ⟨_, rfl⟩
    have hxF : x ∈ F := by rw [<- hx]; exact List.getElem_mem hjR
    have htk := zjz (i := i) T ([i]) F hjR
    rw [hx] at d htk
    have d1 : wr.cell? ⟨q, o + j, none⟩ = some (.int .i64 (x : Int)) := (hK.cell (p := ⟨q, o + j, none⟩) hq).trans d
    have rx := IH.out x hxF wr HKA.out
    have HT : Hid ((T x).length <= 100000) := HTX.out x hxF
    have HK0 : Hid (Kept K' w2 wr) := hK
    have HO0 : Hid (Zac K' wr 3 1 ao n c (ivs ([i] ++ (F.take j).flatMap T))) := hO
    have HTK : Hid ([i] ++ (F.take (j + 1)).flatMap T = ([i] ++ (F.take j).flatMap T) ++ T x) := htk
    have HLN : Hid (([i] ++ (F.take j).flatMap T).length = n) := hln
    clear hjR hq d hx hxF htk hK hO hln
    go_wp2_with fail
    refine rx.mono ?_
    rintro e w3 hL
    obtain ⟨ao2, c2, ao', c', w', rfl, hrun, hO', hK'⟩ := zq4 (fun k h => ltl (HKW.out k h) HK0.out.size) HO0.out hL (by omega) (Nat.le_trans HT.out (by decide))
    obtain ⟨tl, htl⟩ : ∃ tl, (T x).length = tl := ⟨_, rfl⟩
    rw [htl] at hrun hO' ⊢
    have HTL : Hid ((T x).length = tl) := htl
    have HO1 : Hid (Zac K' w' 3 1 ao' (n + tl) c' (ivs (([i] ++ (F.take j).flatMap T) ++ T x))) := hO'
    have HK1 : Hid (Kept K' w2 w') := HK0.out.trans hK'
    clear rx hL hO' hK' htl c1 d1
    go_wp2_with (at_builtin; refine zae (w' := w') rfl (.tmp 30) (.tmp 36) 33 33 rfl _ _ (.slice ao' (n + tl) c') rfl rfl hrun ?_)
    go_roundg (fl - (j + 1))
    case rel => exact ⟨j + 1, n + tl, c', ao', rfl, by omega, by go_num, rfl, by rw [HTK.out, List.length_append, HLN.out, HTL.out], by rw [HTK.out]; exact HO1.out, HK1.out⟩
    case measure => omega
   ·have hjn : j = fl := by omega
    subst hjn
    have hall : F.take j = F := List.take_of_length_le (by rw [HFL.out]; exact Nat.le_refl _)
    rw [hall, HEQ.out] at hO hln
    have HO0 : Hid (Zac K' wr 3 1 ao n c (ivs (T i))) := hO
    have HLN : Hid ((T i).length = n) := hln
    have HK0 : Hid (Kept (fun k => k < X.heap.size) X wr) := HKA.out
    clear hall hO hln hK
    go_wp2
    go_ret
    exact ⟨ao, c, by rw [HLN.out]; rfl, by rw [HLN.out]; exact HO0.out.to (fun q hq => fun hh => (HO0.out.out hq).1 (HKX.out q hh)) (fun q hq => rfl), HK0.out⟩
theorem Rr.fwalk (h : Rr K w p M R G rk) (z : Int) : Calls Tryz.prog 48 #[.pointer (some ⟨p, 0, none⟩), .int .i64 z] w (Lst w (trI M.n (fK M R G) z)) := by
 by_cases c : z < 0 \/ (M.n : Int) <= z
 ·rw [zfn c]
  obtain ⟨A, hY⟩ := h.r
  have c1 := hY.c1
  obtain ⟨m, hm⟩ : ∃ m, M.n = m := ⟨_, rfl⟩
  rw [hm] at c1 c
  clear hY h hm
  by_cases h0 : z < 0
  ·have e0 : decide (z < 0) = true := decide_eq_true h0
   clear c h0
   go_enter Tryz.func48, Tryz.ntmps48
   go_wp2
   go_ret
   exact Lst.nil w _ (Kept.refl _ _)
  ·have e0 : decide (z < 0) = false := decide_eq_false h0
   have e1 : decide (z >= (m : Int)) = true := decide_eq_true (by omega)
   clear c h0
   go_enter Tryz.func48, Tryz.ntmps48
   go_wp2
   go_ret
   exact Lst.nil w _ (Kept.refl _ _)
 ·obtain ⟨i, hi, rfl⟩ : ∃ i : Nat, i < M.n /\ z = (i : Int) := ⟨z.toNat, by omega, by omega⟩
  rw [zdd hi]
  exact h.fwalk_in _ i (Nat.lt_succ_self _) hi w (Kept.refl _ _)
end
end Go.Proofs.YtfeinppedejlpaaGreat
