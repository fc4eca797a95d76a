/-
  The document's own order: Tree, Root, Before.
-/
import Derived.Test.YtfeinppedejlpaaGreatKOa
import Derived.BigQuiet
namespace Go.Proofs.YtfeinppedejlpaaGreat
set_option maxHeartbeats 8000000
set_option maxRecDepth 100000
open Go.RowKit Go.Sort
set_option linter.unusedVariables false
theorem zfi (K : Nat -> Prop) (p : Nat) (M : Dm) (R G : Nat -> List Nat) (i : Int) (w : World) (h : RX K TT w p M R G) :
  Calls Tryz.prog 115 #[.pointer (some ⟨p, 0, none⟩), .int .i64 i] w fun e w' => e = .returned (.bool (decide (0 <= i) && decide (i < (M.n : Int)))) /\ w' = w := by
 obtain ⟨A, h⟩ := h
 have c1 := h.c1
 clear h
 by_cases h0 : 0 <= i
 ·have e0 : decide (i >= 0) = true := decide_eq_true h0
  rw [decide_eq_true h0]
  go_enter Tryz.func115, Tryz.ntmps115
  go_wp2
  go_ret
  exact ⟨by simp, rfl⟩
 ·have e0 : decide (i >= 0) = false := decide_eq_false h0
  rw [decide_eq_false h0]
  go_enter Tryz.func115, Tryz.ntmps115
  go_wp2
  go_ret
  exact ⟨by simp, rfl⟩
theorem zs5 {X wr w2 : World} {ao : Option Addr} {n c : Nat} {Q T : List Nat} {e : Ending} (hX : X.heap.size <= wr.heap.size) (hO : Zac (fun k => k < X.heap.size) wr 3 1 ao n c (ivs Q)) (hL : Lst wr T e w2) (hn : n <= 100000000) (hm : T.length <= 100000000) :
  ∃ ao2 c2 ao' c' w', e = .returned (.slice ao2 T.length c2) /\ (Builtin.append_ #[33, 33] 33 #[.slice ao n c, .slice ao2 T.length c2]).run Tryz.prog w2 = .ok (.slice ao' (n + T.length) c') w' /\ Zac (fun k => k < X.heap.size) w' 3 1 ao' (n + T.length) c' (ivs (Q ++ T)) /\ Kept (fun k => k < X.heap.size) wr w' := by
 obtain ⟨ao2, c2, rfl, hT, hk⟩ := hL
 have hO2 : Zac (fun k => k < X.heap.size) w2 3 1 ao n c (ivs Q) := hO.to (fun q hq => (hO.out hq).1) (fun q hq => hk.block q (hO.out hq).2)
 obtain ⟨ao', c', w', h1, h2, h3⟩ := zcf (ac := c2) hO2 rfl (hT.intsAt (F := fun _ => True) fun _ _ => trivial) (fun k h => ltl h (Nat.le_trans hX hk.size)) hn hm
 exact ⟨ao2, c2, ao', c', w', rfl, h1, h2, (hk.mono fun k h => ltl h hX).trans h3⟩
structure Zi2 (M : Dm) (R : Nat -> List Nat) (p g nc i : Nat) (ka : Option Addr) (kc N : Nat) (Y : World) : Prop where
 c1 : Y.cell? ⟨p, 1, none⟩ = some (.slice (some ⟨g, 0, none⟩) M.n nc)
 c0 : Y.cell? ⟨g, i * 14, none⟩ = some (.int .u8 ((M.nd i).kind : Int))
 c5 : Y.cell? ⟨g, i * 14 + 5, none⟩ = some (.slice ka (R i).length kc)
 c6 : Y.cell? ⟨g, i * 14 + 6, none⟩ = some (.int .i64 (M.nd i).shadow)
 c7 : Y.cell? ⟨g, i * 14 + 7, none⟩ = some (.int .i64 (M.nd i).host)
 kid : Zad (fun q => q < N) Y ka (R i)
theorem RX.nodeAt {K : Nat -> Prop} {w : World} {p : Nat} {M : Dm} {R G : Nat -> List Nat} (h : RX K TT w p M R G) {i : Nat} (hi : i < M.n) : ∃ g nc ka kc, ∀ Y, Kept (fun k => k < w.heap.size) w Y -> Zi2 M R p g nc i ka kc w.heap.size Y := by
 obtain ⟨A, h⟩ := h
 obtain ⟨g, hg, -, -, -⟩ := h.nat (by omega)
 refine ⟨g, A.nc, A.ka i, A.kc i, fun Y hY => ?_⟩
 have h' := h.kept hY
 refine ⟨by rw [h'.c1, hg], h'.cell hg hi 0 _ rfl, h'.cell hg hi 5 _ rfl, h'.cell hg hi 6 _ rfl, h'.cell hg hi 7 _ rfl, ?_⟩
 exact (h.kid i hi).to (fun q hq => hq.1) (fun q hq => hY.block q hq.1)
theorem zjz {i : Nat} (f : Nat -> List Nat) (B l : List Nat) {j : Nat} (hj : j < l.length) : B ++ (l.take (j + 1)).flatMap f = (B ++ (l.take j).flatMap f) ++ f l[j] := by
 rw [List.take_succ_eq_append_getElem hj, List.flatMap_append, List.flatMap_singleton, List.append_assoc]
theorem zn0 (f : Nat -> List Nat) (B l : List Nat) (j : Nat) : (B ++ (l.take j).flatMap f).length <= (B ++ l.flatMap f).length := by
 have e : l.flatMap f = (l.take j).flatMap f ++ (l.drop j).flatMap f := by rw [<- List.flatMap_append, List.take_append_drop]
 rw [e, List.length_append, List.length_append, List.length_append]
 omega
theorem zl5 (K : Nat -> Prop) (p : Nat) (M : Dm) (R G : Nat -> List Nat) (rk : Nat -> Nat) (w : World) (h : RX K TT w p M R G) (hI : Inv M R G rk) (hn : M.n <= 100000) :
  ∀ (f i : Nat), dn M.n rk i < f -> i < M.n -> ∀ X, Kept (fun k => k < w.heap.size) w X -> Calls Tryz.prog 43 #[.pointer (some ⟨p, 0, none⟩), .int .i64 (i : Int)] X (Lst X (tr M.n (R) i)) := by
 intro f
 induction f with
 | zero => exact fun i h => absurd h (Nat.not_lt_zero _)
 | succ f ih =>
  intro i hf hi X hX
  have hO1 : Only M.n (R) rk := hI.good.only
  have IH : Hid (∀ x, x ∈ (R) i -> ∀ Y, Kept (fun k => k < X.heap.size) X Y -> Calls Tryz.prog 43 #[.pointer (some ⟨p, 0, none⟩), .int .i64 (x : Int)] Y (Lst Y (tr M.n (R) x))) := fun x hx Y hY => by
   have hf' := hO1.falls i hi x hx
   have := zfh hf'.1 hf'.2
   exact ih x (by omega) hf'.1 Y (kt hX hY)
  have HTX : Hid (∀ x, x ∈ (R) i -> (tr M.n (R) x).length <= 100000) := fun x hx => Nat.le_trans (zjd hO1 (hO1.falls i hi x hx).1) hn
  have HLE : Hid ((tr M.n (R) i).length <= 100000) := Nat.le_trans (zjd hO1 hi) hn
  have HEQ : Hid (tr M.n (R) i = i :: ((R) i).flatMap (tr M.n (R))) := zcz hO1.falls hi
  have rt := zfi K p M R G (i : Int) X (h.kept hX)
  rw [zao hi] at rt
  obtain ⟨g, nc, ka, kc, hN⟩ := (h.kept hX).nodeAt hi
  have HN : Hid (∀ Y, Kept (fun k => k < X.heap.size) X Y -> Zi2 M R p g nc i ka kc X.heap.size Y) := hN
  have HRL : Hid ((R i).length <= 100000) := by
   have h1 := za4 M.n _ (hI.good.wf.nodup i hi) (fun x hx => hI.good.wf.lt i hi x hx)
   exact (show Hid _ from Nat.le_trans h1 hn)
  obtain ⟨V, hV⟩ : ∃ V, X.alloc (.cells #[.int .i64 (i : Int)] 3) = V := ⟨_, rfl⟩
  obtain ⟨N, hNN⟩ : ∃ N, X.heap.size = N := ⟨_, rfl⟩
  have hb : V.heap[N]? = some (.cells #[.int .i64 (i : Int)] 3 (0, 0)) := by rw [<- hV, <- hNN]; exact heap_alloc_new X _
  have HKV : Hid (Kept (fun k => k < X.heap.size) X V) := by rw [<- hV]; exact (Kept.refl _ X).alloc (fun _ h => h) _
  have HOV : Hid (Zac (fun k => k < X.heap.size) V 3 1 (some ⟨N, 0, none⟩) 1 1 (ivs [i])) := ⟨rfl, Nat.le_refl _, by unfold maxLen; omega, .inr ⟨N, _, rfl, by rw [hNN]; exact Nat.lt_irrefl _, hb, rfl, rfl⟩⟩
  have HV : Hid (X.alloc (.cells #[.int .i64 (i : Int)] 3) = V) := hV
  have HNN : Hid (X.heap.size = N) := hNN
  obtain ⟨m, hm⟩ : ∃ m, M.n = m := ⟨_, rfl⟩
  have HM : Hid (M.n = m) := hm
  have him : i < m := by rw [<- hm]; exact hi
  have hm1 : m <= 100000 := by rw [<- hm]; exact hn
  clear ih hf hi hX hO1 hN hb hV hNN hm h hI hn
  go_enter Tryz.func43, Tryz.ntmps43
  go_upto_region 4 with (go_at_call 115; refine rt.mono ?_; rintro e1 w3 ⟨rfl, hw3⟩; replace hw3 := hw3.symm; subst hw3)
  rw [HV.out, HNN.out]
  clear rt HV HNN
  have HFIN : Hid ([i] ++ (R i).flatMap (tr M.n (R)) = tr M.n (R) i) := HEQ.out.symm
  have HKU : Hid (Kept (fun k => k < X.heap.size) X V) := HKV
  have HU0 : Hid (Zac (fun k => k < X.heap.size) V 3 1 (some ⟨N, 0, none⟩) 1 1 (ivs [i])) := HOV
  have HB0 : Hid (([i] ++ ((R i).take 0).flatMap (tr M.n (R))).length = 1) := rfl
  obtain ⟨kl, hkl⟩ : ∃ kl, (R i).length = kl := ⟨_, rfl⟩
  have HKL : Hid ((R i).length = kl) := hkl
  have hkl3 : kl <= 100000 := by rw [<- hkl]; exact HRL.out
  clear hkl
  go_upto_region 5 with fail
  go_loopg [5, 6] kl (fun gh v5 v6 wr => ∃ (j n c : Nat) (ao : Option Addr), gh = kl - j /\ j <= kl /\ v6 = .int .i64 (j : Int) /\ v5 = .slice ao n c /\ (([i]) ++ ((R i).take j).flatMap (tr M.n (R))).length = n /\ Zac (fun k => k < X.heap.size) wr 3 1 ao n c (ivs (([i]) ++ ((R i).take j).flatMap (tr M.n (R)))) /\ Kept (fun k => k < X.heap.size) X wr)
  case atStart => exact ⟨0, _, _, _, rfl, Nat.zero_le _, rfl, rfl, HB0.out, by rw [List.take_zero, List.flatMap_nil, List.append_nil]; exact HU0.out, HKU.out⟩
  case round =>
   obtain ⟨j, n, c, ao, hgj, hj, rfl, rfl, hln, hO, hK⟩ := hrel
   have hn9 : n <= 100000 := by
    rw [<- hln]
    refine Nat.le_trans (zn0 _ _ _ _) ?_
    rw [HFIN.out]
    exact HLE.out
   have hA := HN.out wr hK
   have c1 := hA.c1
   have c5 := hA.c5
   rw [HKL.out] at c5
   rw [HM.out] at c1
   by_cases hlt : j < kl
   ·have hjR : j < (R i).length := by rw [HKL.out]; exact hlt
    obtain ⟨q, o, hka, hq, d⟩ := hA.kid j hjR
    obtain ⟨x, hx⟩ : ∃ x, (R i)[j] = x := ⟨_, rfl⟩
    have hxF : x ∈ (R) i := by rw [<- hx]; exact List.getElem_mem hjR
    have htk := zjz (i := i) (tr M.n (R)) ([i]) (R i) hjR
    rw [hx] at d htk
    have d1 : wr.cell? ⟨q, o + j, none⟩ = some (.int .i64 (x : Int)) := d
    rw [hka] at c5
    have rx := IH.out x hxF wr hK
    have HT : Hid ((tr M.n (R) x).length <= 100000) := HTX.out x hxF
    have HK0 : Hid (Kept (fun k => k < X.heap.size) X wr) := hK
    have HO0 : Hid (Zac (fun k => k < X.heap.size) wr 3 1 ao n c (ivs (([i]) ++ ((R i).take j).flatMap (tr M.n (R))))) := hO
    have HTK : Hid (([i]) ++ ((R i).take (j + 1)).flatMap (tr M.n (R)) = (([i]) ++ ((R i).take j).flatMap (tr M.n (R))) ++ tr M.n (R) x) := htk
    have HLN : Hid ((([i]) ++ ((R i).take j).flatMap (tr M.n (R))).length = n) := hln
    clear hA hjR hka hq d hx hxF htk hK hO hln
    go_wp2_with fail
    refine rx.mono ?_
    rintro e w2 hL
    obtain ⟨ao2, c2, ao', c', w', rfl, hrun, hO', hK'⟩ := zs5 HK0.out.size HO0.out hL (by omega) (Nat.le_trans HT.out (by decide))
    obtain ⟨tl, htl⟩ : ∃ tl, (tr M.n (R) x).length = tl := ⟨_, rfl⟩
    rw [htl] at hrun hO' ⊢
    have HTL : Hid ((tr M.n (R) x).length = tl) := htl
    have HO1 : Hid (Zac (fun k => k < X.heap.size) w' 3 1 ao' (n + tl) c' (ivs ((([i]) ++ ((R i).take j).flatMap (tr M.n (R))) ++ tr M.n (R) x))) := hO'
    have HK1 : Hid (Kept (fun k => k < X.heap.size) X w') := HK0.out.trans hK'
    clear rx hL hO' hK' htl c1 c5 d1
    go_wp2_with (at_builtin; refine zae (w' := w') rfl (.tmp 26) (.tmp 39) 33 33 rfl _ _ (.slice ao' (n + tl) c') rfl rfl hrun ?_)
    go_roundg (kl - (j + 1))
    case rel => exact ⟨j + 1, n + tl, c', ao', rfl, by omega, by go_num, rfl, by rw [HTK.out, List.length_append, HLN.out, HTL.out], by rw [HTK.out]; exact HO1.out, HK1.out⟩
    case measure => omega
   ·have hjn : j = kl := by omega
    subst hjn
    have hall : (R i).take j = R i := List.take_of_length_le (by rw [HKL.out]; exact Nat.le_refl _)
    rw [hall, HFIN.out] at hO hln
    have HO0 : Hid (Zac (fun k => k < X.heap.size) wr 3 1 ao n c (ivs (tr M.n (R) i))) := hO
    have HLN : Hid ((tr M.n (R) i).length = n) := hln
    have HK0 : Hid (Kept (fun k => k < X.heap.size) X wr) := hK
    clear hall hA hO hln hK
    go_wp2
    go_ret
    exact ⟨ao, c, by rw [HLN.out]; rfl, by rw [HLN.out]; exact HO0.out, HK0.out⟩
theorem zkd (K : Nat -> Prop) (p : Nat) (M : Dm) (R G : Nat -> List Nat) (rk : Nat -> Nat) (w : World) (h : RX K TT w p M R G) (hI : Inv M R G rk) (hn : M.n <= 100000) (z : Int) :
  Calls Tryz.prog 43 #[.pointer (some ⟨p, 0, none⟩), .int .i64 z] w (Lst w (trI M.n R z)) := by
 by_cases c : z < 0 \/ (M.n : Int) <= z
 ·rw [zfn c]
  have rt := zfi K p M R G z w h
  rw [zcg c] at rt
  clear h c hI
  go_enter Tryz.func43, Tryz.ntmps43
  go_wp2_with (go_at_call 115; refine rt.mono ?_; rintro e1 w3 ⟨rfl, hw3⟩; replace hw3 := hw3.symm; subst hw3)
  go_ret
  exact ⟨none, 0, rfl, Zac.nil _ _ _ _, Kept.refl _ _⟩
 ·obtain ⟨i, hi, rfl⟩ : ∃ i : Nat, i < M.n /\ z = (i : Int) := ⟨z.toNat, by omega, by omega⟩
  rw [zdd hi]
  exact zl5 K p M R G rk w h hI hn _ i (Nat.lt_succ_self _) hi w (Kept.refl _ _)
theorem znv (K : Nat -> Prop) (p i : Nat) (M : Dm) (R G : Nat -> List Nat) (rk : Nat -> Nat) (w : World) (h : RX K TT w p M R G) (hG : Good M R rk) (hi : i < M.n) (hn : M.n <= 1000000) :
  Calls Tryz.prog 156 #[.pointer (some ⟨p, 0, none⟩), .int .i64 (i : Int)] w fun e w' => ∃ t, t < M.n /\ Zbv M i t /\ e = .returned (.int .i64 (t : Int)) /\ w' = w := by
 have rt := zfi K p M R G (i : Int) w h
 rw [zao hi] at rt
 obtain ⟨A, h⟩ := h
 obtain ⟨g, hg, -, -, -⟩ := h.nat (by omega)
 have c1 := h.c1
 rw [hg] at c1
 have HC : Hid (∀ k, k < M.n -> w.cell? ⟨g, k * 14 + 4, none⟩ = some (.int .i64 (M.pl k).up)) := fun k hk => h.cell hg hk 4 _ rfl
 have HG : Hid (Good M R rk) := hG
 clear h hg hG
 go_enter Tryz.func156, Tryz.ntmps156
 go_upto_region 3 with (go_at_call 115; refine rt.mono ?_; rintro e1 w3 ⟨rfl, hw3⟩; replace hw3 := hw3.symm; subst hw3)
 go_loopg [1] (rk i) (fun gh v wr => wr = w /\ ∃ k : Nat, gh = rk k /\ v = .int .i64 (k : Int) /\ k < M.n /\ (∀ t, Zbv M k t -> Zbv M i t))
 case atStart => exact ⟨rfl, i, rfl, rfl, hi, fun _ h => h⟩
 case round =>
  obtain ⟨rfl, k, hgk, rfl, hk, hT⟩ := hrel
  have HT : Hid (∀ t, Zbv M k t -> Zbv M i t) := hT
  have d4 := HC.out k hk
  clear hT
  rcases HG.out.wf.inn k hk with h0 | ⟨u, hu, hup, -⟩
  ·rw [h0] at d4
   have H0 : Hid ((M.pl k).up = -1) := h0
   have e0 : decide ((-1 : Int) >= 0) = false := by decide
   clear h0
   go_wp2
   go_ret
   exact ⟨k, hk, HT.out k (.here H0.out), rfl, rfl⟩
  ·have HUP : Hid ((M.pl k).up = (u : Int)) := hup
   have hrk := (HG.out.rk_up hk hup).2
   have e0 : decide ((u : Int) >= 0) = true := decide_eq_true (by omega)
   rw [hup] at d4
   clear hup
   go_wp2
   go_roundg (rk u)
   case rel => exact ⟨rfl, u, rfl, rfl, hu, fun t ht => HT.out t (.up HUP.out ht)⟩
   case measure => omega
end Go.Proofs.YtfeinppedejlpaaGreat
