/-
 order.from: what it hands back goes through a node and all that follow it.; order.Tree, order.All: WHAT THEY TELL.; order.Before: WHAT IT TELLS.; The document's own order.Top, Tree, All.
-/
import Derived.Test.YtkngpgkldkohgaaGreatB31
import Derived.Test.YtkngpgkldkohgaaGreatB16
import Derived.Test.YtkngpgkldkohgaaGreatB32
import Derived.Test.YtkngpgkldkohgaaGreatB15
import Derived.Test.YtkngpgkldkohgaaGreatB29
import Derived.Test.YtkngpgkldkohgaaGreatB26
import Derived.Test.YtkngpgkldkohgaaGreatB17
import Derived.Deep.MidRow
namespace Go.Proofs.YtkngpgkldkohgaaGreat
set_option linter.unusedVariables false
set_option maxRecDepth 100000
set_option maxHeartbeats 8000000
section
open Go.RowKit Go.Shelf
attribute [local go_sem] Oper.semAt_some
def trI (n : Nat) (F : Nat -> List Nat) (i : Int) : List Nat := if i < 0 \/ (n : Int) <= i then [] else tr n F i.toNat
theorem trI_in {n : Nat} {F : Nat -> List Nat} {i : Nat} (h : i < n) : trI n F (i : Int) = tr n F i := by unfold trI; rw [if_neg (by omega), Int.toNat_natCast]
theorem trI_no {n : Nat} {F : Nat -> List Nat} {i : Int} (h : i < 0 \/ (n : Int) <= i) : trI n F i = [] := if_pos h
end
section
open Go.RowKit
def Lst (w : World) (l : List Nat) (e : Ending) (w' : World) : Prop := ∃ ao c, e = .returned (.slice ao l.length c) /\ OwnZ (fun k => k < w.heap.size) w' 3 1 ao l.length c (ivs l) /\ Kept (fun k => k < w.heap.size) w w'
end
section
open Go.RowKit Go.Shelf
attribute [local go_sem] Oper.semAt_some
def RootI (M : Dm) (z r : Int) : Prop := ((z < 0 \/ (M.n : Int) <= z) /\ r = -1) \/ ∃ k t : Nat, k < M.n /\ z = (k : Int) /\ TopOf M k t /\ t < M.n /\ r = (t : Int)
theorem RootI.ex {M : Dm} {R : Nat -> List Nat} {rk : Nat -> Nat} (h : Good M R rk) (z : Int) : ∃ r, RootI M z r := by
 by_cases c : z < 0 \/ (M.n : Int) <= z
 ·exact ⟨-1, .inl ⟨c, rfl⟩⟩
 ·obtain ⟨k, hk, rfl⟩ : ∃ k : Nat, k < M.n /\ z = (k : Int) := ⟨z.toNat, by omega, by omega⟩
  obtain ⟨t, ht, hT, _⟩ := h.top _ k (Nat.lt_succ_self _) hk
  exact ⟨t, .inr ⟨k, t, hk, rfl, hT, ht, rfl⟩⟩
theorem RootI.one {M : Dm} {z r r' : Int} (h : RootI M z r) (h' : RootI M z r') : r = r' := by
 rcases h with ⟨h1, rfl⟩ | ⟨k, t, h1, rfl, h2, h3, rfl⟩ <;> rcases h' with ⟨g1, rfl⟩ | ⟨k', t', g1, g0, g2, g3, rfl⟩
 ·rfl
 ·omega
 ·omega
 ·have : k = k' := by omega
  subst this
  rw [h2.one g2]
theorem RootI.lt {M : Dm} {z r : Int} (h : RootI M z r) : r = -1 \/ ∃ t : Nat, t < M.n /\ r = (t : Int) := by
 rcases h with ⟨_, e⟩ | ⟨k, t, _, _, _, ht, e⟩
 ·exact .inl e
 ·exact .inr ⟨t, ht, e⟩
theorem RootI.calls {K : Nat -> Prop} {p : Nat} {M : Dm} {R : Nat -> List Nat} {rk : Nat -> Nat} {w : World} {z r : Int} (h : RootI M z r) (hd : DX K w p M) (hG : Good M R rk) (hn : M.n <= 100000) :
  Calls Tryz.prog 167 #[.pointer (some ⟨p, 0, none⟩), .int .i64 z] w fun e w' => e = .returned (.int .i64 r) /\ Kept (fun k => k < w.heap.size) w w' := by
 rcases h with ⟨h1, rfl⟩ | ⟨k, t, h1, rfl, h2, h3, rfl⟩
 ·exact oroot_none K p z M w hd h1 (by omega)
 ·exact (oroot_any K p k M R rk w hd hG h1 (by omega)).mono fun e w' ⟨t', _, q2, q3, q4⟩ => by rw [q2.one h2] at q3; exact ⟨q3, q4⟩
end
section
open Go.RowKit Go.Sort
theorem app_lst {X wr w2 : World} {ao : Option Addr} {n c : Nat} {Q T : List Nat} {e : Ending} (hX : X.heap.size <= wr.heap.size) (hO : OwnZ (fun k => k < X.heap.size) wr 3 1 ao n c (ivs Q)) (hL : Lst wr T e w2) (hn : n <= 100000000) (hm : T.length <= 100000000) :
  ∃ ao2 c2 ao' c' w', e = .returned (.slice ao2 T.length c2) /\ (Builtin.append_ #[33, 33] 33 #[.slice ao n c, .slice ao2 T.length c2]).run Tryz.prog w2 = .ok (.slice ao' (n + T.length) c') w' /\ OwnZ (fun k => k < X.heap.size) w' 3 1 ao' (n + T.length) c' (ivs (Q ++ T)) /\ Kept (fun k => k < X.heap.size) wr w' := by
 obtain ⟨ao2, c2, rfl, hT, hk⟩ := hL
 have hO2 : OwnZ (fun k => k < X.heap.size) w2 3 1 ao n c (ivs Q) := hO.to (fun q hq => (hO.out hq).1) (fun q hq => hk.block q (hO.out hq).2)
 obtain ⟨ao', c', w', h1, h2, h3⟩ := app_ints (ac := c2) hO2 rfl (hT.intsAt (F := fun _ => True) fun _ _ => trivial) (fun k h => Nat.lt_of_lt_of_le h (Nat.le_trans hX hk.size)) hn hm
 exact ⟨ao2, c2, ao', c', w', rfl, h1, h2, (hk.mono fun k h => Nat.lt_of_lt_of_le h hX).trans h3⟩
structure NodeAt (M : Dm) (R : Nat -> List Nat) (p g nc i : Nat) (ka : Option Addr) (kc N : Nat) (Y : World) : Prop where
 c1 : Y.cell? ⟨p, 1, none⟩ = some (.slice (some ⟨g, 0, none⟩) M.n nc)
 c0 : Y.cell? ⟨g, i * 14, none⟩ = some (.int .u8 ((M.nd i).kind : Int))
 c5 : Y.cell? ⟨g, i * 14 + 5, none⟩ = some (.slice ka (R i).length kc)
 c6 : Y.cell? ⟨g, i * 14 + 6, none⟩ = some (.int .i64 (M.nd i).shadow)
 c7 : Y.cell? ⟨g, i * 14 + 7, none⟩ = some (.int .i64 (M.nd i).host)
 kid : IntsAt (fun q => q < N) Y ka (R i)
theorem RX.nodeAt {K : Nat -> Prop} {w : World} {p : Nat} {M : Dm} {R G : Nat -> List Nat} (h : RX K w p M R G) {i : Nat} (hi : i < M.n) : ∃ g nc ka kc, ∀ Y, Kept (fun k => k < w.heap.size) w Y -> NodeAt M R p g nc i ka kc w.heap.size Y := by
 obtain ⟨A, h⟩ := h
 obtain ⟨g, hg, -, -, -⟩ := h.nat (by omega)
 refine ⟨g, A.nc, A.ka i, A.kc i, fun Y hY => ?_⟩
 have h' := h.kept hY
 refine ⟨by rw [h'.c1, hg], h'.cell hg hi 0 _ rfl, h'.cell hg hi 5 _ rfl, h'.cell hg hi 6 _ rfl, h'.cell hg hi 7 _ rfl, ?_⟩
 exact (h.kid i hi).to (fun q hq => hq.1) (fun q hq => hY.block q hq.1)
theorem take_flat {i : Nat} (f : Nat -> List Nat) (B l : List Nat) {j : Nat} (hj : j < l.length) : B ++ (l.take (j + 1)).flatMap f = (B ++ (l.take j).flatMap f) ++ f l[j] := by
 rw [List.take_succ_eq_append_getElem hj, List.flatMap_append, List.flatMap_singleton, List.append_assoc]
theorem take_le (f : Nat -> List Nat) (B l : List Nat) (j : Nat) : (B ++ (l.take j).flatMap f).length <= (B ++ l.flatMap f).length := by
 have e : l.flatMap f = (l.take j).flatMap f ++ (l.drop j).flatMap f := by rw [<- List.flatMap_append, List.take_append_drop]
 rw [e, List.length_append, List.length_append, List.length_append]
 omega
theorem pTree_in (K : Nat -> Prop) (p : Nat) (M : Dm) (R G : Nat -> List Nat) (rk : Nat -> Nat) (w : World) (h : RX K w p M R G) (hI : Inv M R G rk) (hn : M.n <= 100000) :
  ∀ (f i : Nat), dn M.n rk i < f -> i < M.n -> ∀ X, Kept (fun k => k < w.heap.size) w X -> Calls Tryz.prog 46 #[.pointer (some ⟨p, 0, none⟩), .int .i64 (i : Int)] X (Lst X (tr M.n (R) i)) := by
 intro f
 induction f with
 | zero => exact fun i h => absurd h (Nat.not_lt_zero _)
 | succ f ih =>
  intro i hf hi X hX
  have hO1 : Only M.n (R) rk := hI.good.only
  have IH : Hid (∀ x, x ∈ (R) i -> ∀ Y, Kept (fun k => k < X.heap.size) X Y -> Calls Tryz.prog 46 #[.pointer (some ⟨p, 0, none⟩), .int .i64 (x : Int)] Y (Lst Y (tr M.n (R) x))) := fun x hx Y hY => by
   have hf' := hO1.falls i hi x hx
   have := dn_lt hf'.1 hf'.2
   exact ih x (by omega) hf'.1 Y (hX.trans (hY.mono fun k h => Nat.lt_of_lt_of_le h hX.size))
  have HTX : Hid (∀ x, x ∈ (R) i -> (tr M.n (R) x).length <= 100000) := fun x hx => Nat.le_trans (tr_len hO1 (hO1.falls i hi x hx).1) hn
  have HLE : Hid ((tr M.n (R) i).length <= 100000) := Nat.le_trans (tr_len hO1 hi) hn
  have HEQ : Hid (tr M.n (R) i = i :: ((R) i).flatMap (tr M.n (R))) := tr_eq hO1.falls hi
  have rt := othere_any K p M R G (i : Int) X (h.kept hX)
  rw [there_yes hi] at rt
  obtain ⟨g, nc, ka, kc, hN⟩ := (h.kept hX).nodeAt hi
  have HN : Hid (∀ Y, Kept (fun k => k < X.heap.size) X Y -> NodeAt M R p g nc i ka kc X.heap.size Y) := hN
  have HRL : Hid ((R i).length <= 100000) := by
   have h1 := nodup_le M.n _ (hI.good.wf.nodup i hi) (fun x hx => hI.good.wf.lt i hi x hx)
   exact (show Hid _ from Nat.le_trans h1 hn)
  obtain ⟨V, hV⟩ : ∃ V, X.alloc (.cells #[.int .i64 (i : Int)] 3) = V := ⟨_, rfl⟩
  obtain ⟨N, hNN⟩ : ∃ N, X.heap.size = N := ⟨_, rfl⟩
  have hb : V.heap[N]? = some (.cells #[.int .i64 (i : Int)] 3 (0, 0)) := by rw [<- hV, <- hNN]; exact heap_alloc_new X _
  have HKV : Hid (Kept (fun k => k < X.heap.size) X V) := by rw [<- hV]; exact (Kept.refl _ X).alloc (fun _ h => h) _
  have HOV : Hid (OwnZ (fun k => k < X.heap.size) V 3 1 (some ⟨N, 0, none⟩) 1 1 (ivs [i])) := ⟨rfl, Nat.le_refl _, by unfold maxLen; omega, .inr ⟨N, _, rfl, by rw [hNN]; exact Nat.lt_irrefl _, hb, rfl, rfl⟩⟩
  have HV : Hid (X.alloc (.cells #[.int .i64 (i : Int)] 3) = V) := hV
  have HNN : Hid (X.heap.size = N) := hNN
  obtain ⟨m, hm⟩ : ∃ m, M.n = m := ⟨_, rfl⟩
  have HM : Hid (M.n = m) := hm
  have him : i < m := by rw [<- hm]; exact hi
  have hm1 : m <= 100000 := by rw [<- hm]; exact hn
  clear ih hf hi hX hO1 hN hb hV hNN hm h hI hn
  go_enter Tryz.func46, Tryz.ntmps46
  go_upto_region 4 with (go_at_call 106; refine rt.mono ?_; rintro e1 w3 ⟨rfl, hw3⟩; replace hw3 := hw3.symm; subst hw3)
  rw [HV.out, HNN.out]
  clear rt HV HNN
  have HFIN : Hid ([i] ++ (R i).flatMap (tr M.n (R)) = tr M.n (R) i) := HEQ.out.symm
  have HKU : Hid (Kept (fun k => k < X.heap.size) X V) := HKV
  have HU0 : Hid (OwnZ (fun k => k < X.heap.size) V 3 1 (some ⟨N, 0, none⟩) 1 1 (ivs [i])) := HOV
  have HB0 : Hid (([i] ++ ((R i).take 0).flatMap (tr M.n (R))).length = 1) := rfl
  obtain ⟨kl, hkl⟩ : ∃ kl, (R i).length = kl := ⟨_, rfl⟩
  have HKL : Hid ((R i).length = kl) := hkl
  have hkl3 : kl <= 100000 := by rw [<- hkl]; exact HRL.out
  clear hkl
  go_upto_region 5 with fail
  go_loopg [5, 6] kl (fun gh v5 v6 wr => ∃ (j n c : Nat) (ao : Option Addr), gh = kl - j /\ j <= kl /\ v6 = .int .i64 (j : Int) /\ v5 = .slice ao n c /\ (([i]) ++ ((R i).take j).flatMap (tr M.n (R))).length = n /\ OwnZ (fun k => k < X.heap.size) wr 3 1 ao n c (ivs (([i]) ++ ((R i).take j).flatMap (tr M.n (R)))) /\ Kept (fun k => k < X.heap.size) X wr)
  case atStart => exact ⟨0, _, _, _, rfl, Nat.zero_le _, rfl, rfl, HB0.out, by rw [List.take_zero, List.flatMap_nil, List.append_nil]; exact HU0.out, HKU.out⟩
  case round =>
   obtain ⟨j, n, c, ao, hgj, hj, rfl, rfl, hln, hO, hK⟩ := hrel
   have hn9 : n <= 100000 := by
    rw [<- hln]
    refine Nat.le_trans (take_le _ _ _ _) ?_
    rw [HFIN.out]
    exact HLE.out
   have hA := HN.out wr hK
   have c1 := hA.c1
   have c5 := hA.c5
   rw [HKL.out] at c5
   rw [HM.out] at c1
   by_cases hlt : j < kl
   ·have hjR : j < (R i).length := by rw [HKL.out]; exact hlt
    obtain ⟨q, o, hka, hq, d⟩ := hA.kid j hjR
    obtain ⟨x, hx⟩ : ∃ x, (R i)[j] = x := ⟨_, rfl⟩
    have hxF : x ∈ (R) i := by rw [<- hx]; exact List.getElem_mem hjR
    have htk := take_flat (i := i) (tr M.n (R)) ([i]) (R i) hjR
    rw [hx] at d htk
    have d1 : wr.cell? ⟨q, o + j, none⟩ = some (.int .i64 (x : Int)) := d
    rw [hka] at c5
    have rx := IH.out x hxF wr hK
    have HT : Hid ((tr M.n (R) x).length <= 100000) := HTX.out x hxF
    have HK0 : Hid (Kept (fun k => k < X.heap.size) X wr) := hK
    have HO0 : Hid (OwnZ (fun k => k < X.heap.size) wr 3 1 ao n c (ivs (([i]) ++ ((R i).take j).flatMap (tr M.n (R))))) := hO
    have HTK : Hid (([i]) ++ ((R i).take (j + 1)).flatMap (tr M.n (R)) = (([i]) ++ ((R i).take j).flatMap (tr M.n (R))) ++ tr M.n (R) x) := htk
    have HLN : Hid ((([i]) ++ ((R i).take j).flatMap (tr M.n (R))).length = n) := hln
    clear hA hjR hka hq d hx hxF htk hK hO hln
    go_wp2_with fail
    refine rx.mono ?_
    rintro e w2 hL
    obtain ⟨ao2, c2, ao', c', w', rfl, hrun, hO', hK'⟩ := app_lst HK0.out.size HO0.out hL (by omega) (Nat.le_trans HT.out (by decide))
    obtain ⟨tl, htl⟩ : ∃ tl, (tr M.n (R) x).length = tl := ⟨_, rfl⟩
    rw [htl] at hrun hO' ⊢
    have HTL : Hid ((tr M.n (R) x).length = tl) := htl
    have HO1 : Hid (OwnZ (fun k => k < X.heap.size) w' 3 1 ao' (n + tl) c' (ivs ((([i]) ++ ((R i).take j).flatMap (tr M.n (R))) ++ tr M.n (R) x))) := hO'
    have HK1 : Hid (Kept (fun k => k < X.heap.size) X w') := HK0.out.trans hK'
    clear rx hL hO' hK' htl c1 c5 d1
    go_wp2_with (at_builtin; refine wpList_appR (w' := w') rfl (.tmp 26) (.tmp 39) 33 33 rfl _ _ (.slice ao' (n + tl) c') rfl rfl hrun ?_)
    go_roundg (kl - (j + 1))
    case rel => exact ⟨j + 1, n + tl, c', ao', rfl, by omega, by go_num, rfl, by rw [HTK.out, List.length_append, HLN.out, HTL.out], by rw [HTK.out]; exact HO1.out, HK1.out⟩
    case measure => omega
   ·have hjn : j = kl := by omega
    subst hjn
    have hall : (R i).take j = R i := List.take_of_length_le (by rw [HKL.out]; exact Nat.le_refl _)
    rw [hall, HFIN.out] at hO hln
    have HO0 : Hid (OwnZ (fun k => k < X.heap.size) wr 3 1 ao n c (ivs (tr M.n (R) i))) := hO
    have HLN : Hid ((tr M.n (R) i).length = n) := hln
    have HK0 : Hid (Kept (fun k => k < X.heap.size) X wr) := hK
    clear hall hA hO hln hK
    go_wp2
    go_ret
    exact ⟨ao, c, by rw [HLN.out]; rfl, by rw [HLN.out]; exact HO0.out, HK0.out⟩
end
end Go.Proofs.YtkngpgkldkohgaaGreat
