/-
 slots: pick, slices.IndexFunc and ContainsFunc over numbers, first.; slots: Find, what is shown, Assigned.
-/
import Derived.Test.YtfeinppedejlpaaGreatKC01
import Derived.Test.YtfeinppedejlpaaGreatKR3
import Derived.Test.YtfeinppedejlpaaGreatKC02
import Derived.Test.YtfeinppedejlpaaGreatKB19
import Derived.Test.YtfeinppedejlpaaGreatKW22
import Derived.Test.YtfeinppedejlpaaGreatKB06
namespace Go.Proofs.YtfeinppedejlpaaGreat
set_option linter.unusedVariables false
set_option maxRecDepth 100000
set_option maxHeartbeats 8000000
section
open Go.RowKit
theorem zgc (l : List Nat) (n m : Nat) (hln : l.length = n) (hn : n <= 1000000) (hlt : ∀ i ∈ l, i < m) (a : Option Addr) (cap : Nat) (v : Value) (b : Nat -> Bool) (w : World) (hr : Zad (fun g => g < w.heap.size) w a l) (hv : Zfx w v b m) :
  Calls Tryz.prog 87 #[.slice a n cap, v] w (Lst w (l.filter b)) := by
 obtain ⟨f, caps, rfl, he, hc⟩ := hv
 have HR : Hid (Zad (fun g => g < w.heap.size) w a l) := hr
 have HC : Hid (∀ i, i < m -> ∀ X, Kept (fun k => k < w.heap.size) w X -> Calls Tryz.prog f (#[.int .i64 (i : Int)] ++ caps) X fun e Y => e = .returned (.bool (b i)) /\ Kept (fun k => k < X.heap.size) X Y) := hc
 have HL : Hid (l.length = n) := hln
 have HLT : Hid (∀ i ∈ l, i < m) := hlt
 clear hr hc hln hlt
 go_enter Tryz.func87, Tryz.ntmps87
 go_upto_region 3 with fail
 go_loopg [5, 10] n (fun gh v5 v10 wr => ∃ (j q c : Nat) (ao : Option Addr), gh = n - j /\ j <= n /\ v10 = .int .i64 (j : Int) /\ v5 = .slice ao q c /\ ((l.take j).filter b).length = q /\ Zac (fun k => k < w.heap.size) wr 3 1 ao q c (ivs ((l.take j).filter b)) /\ Kept (fun k => k < w.heap.size) w wr)
 case atStart => exact ⟨0, 0, 0, none, rfl, Nat.zero_le _, rfl, rfl, rfl, Zac.nil _ _ _ _, Kept.refl _ _⟩
 case round =>
  obtain ⟨j, q, c, ao, hgj, hj, rfl, rfl, hq, hO, hK⟩ := hrel
  by_cases hlt : j < n
  ·have hl : j < l.length := by rw [HL.out]; exact hlt
   obtain ⟨g, o, rfl, hg, d⟩ := HR.out j hl
   have d' : wr.cell? ⟨g, o + j, none⟩ = some (.int .i64 (l[j] : Int)) := (hK.cell (p := ⟨g, o + j, none⟩) hg).trans d
   have hx := HLT.out l[j] (List.getElem_mem hl)
   have htk : l.take (j + 1) = l.take j ++ [l[j]] := List.take_succ_eq_append_getElem hl
   have hql : q <= n := by
    rw [<- hq]
    refine Nat.le_trans (List.length_filter_le ..) ?_
    rw [List.length_take]
    omega
   obtain ⟨x, hxe⟩ : ∃ x, l[j] = x := ⟨_, rfl⟩
   rw [hxe] at d' hx htk
   have r := HC.out x hx wr hK
   obtain ⟨t, ht⟩ : ∃ t, b x = t := ⟨_, rfl⟩
   rw [ht] at r
   have hfl : (l.take (j + 1)).filter b = (l.take j).filter b ++ if t then [x] else [] := by rw [htk, List.filter_append, <- ht]; cases hb : b x <;> simp [hb]
   have HFL : Hid ((l.take (j + 1)).filter b = (l.take j).filter b ++ if t then [x] else []) := hfl
   have HRR : Hid (Calls Tryz.prog f (#[.int .i64 (x : Int)] ++ caps) wr fun e Y => e = .returned (.bool t) /\ Kept (fun k => k < wr.heap.size) wr Y) := r
   have HO : Hid (Zac (fun k => k < w.heap.size) wr 3 1 ao q c (ivs ((l.take j).filter b))) := hO
   have HK : Hid (Kept (fun k => k < w.heap.size) w wr) := hK
   have HQ : Hid (((l.take j).filter b).length = q) := hq
   clear d hx htk hxe r ht hfl hO hK hq
   go_wp2_with fail
   refine HRR.out.mono ?_
   rintro e w2 ⟨rfl, hk2⟩
   have HK2 : Hid (Kept (fun k => k < w.heap.size) w w2) := kt HK.out hk2
   have hO2 : Zac (fun k => k < w.heap.size) w2 3 1 ao q c (ivs ((l.take j).filter b)) := HO.out.to (fun g hg => (HO.out.out hg).1) (fun g hg => hk2.block g (HO.out.out hg).2)
   clear HRR d' hk2 he
   cases t with
   | false =>
    have HO2 : Hid (Zac (fun k => k < w.heap.size) w2 3 1 ao q c (ivs ((l.take j).filter b))) := hO2
    clear hO2
    go_wp2
    go_roundg (n - (j + 1))
    case rel => exact ⟨j + 1, q, c, ao, rfl, by omega, by go_num, rfl, by rw [HFL.out]; simpa using HQ.out, by rw [HFL.out]; simpa using HO2.out, HK2.out⟩
    case measure => omega
   | true =>
    obtain ⟨ao', c', w', hrun, hO', hK'⟩ := zkx hO2 (fun k hk => ltl hk HK2.out.size) (by omega) (x : Int)
    have HO3 : Hid (Zac (fun k => k < w.heap.size) w' 3 1 ao' (q + 1) c' (ivs ((l.take j).filter b) ++ [.int .i64 (x : Int)])) := hO'
    have HK3 : Hid (Kept (fun k => k < w.heap.size) w w') := HK2.out.trans hK'
    clear hO2 hO' hK'
    go_wp2_with (at_builtin; refine zae (w' := w') rfl (.tmp 17) (.tmp 19) 33 33 rfl _ _ (.slice ao' (q + 1) c') rfl rfl hrun ?_)
    go_roundg (n - (j + 1))
    case rel => exact ⟨j + 1, q + 1, c', ao', rfl, by omega, by go_num, rfl, by rw [HFL.out]; simp [HQ.out], by rw [HFL.out, ivs, List.map_append]; exact HO3.out, HK3.out⟩
    case measure => omega
  ·have hjn : n = j := by omega
   subst hjn
   have hall : l.take n = l := List.take_of_length_le (by rw [HL.out]; exact Nat.le_refl _)
   rw [hall] at hO hq
   have HO : Hid (Zac (fun k => k < w.heap.size) wr 3 1 ao q c (ivs (l.filter b))) := hO
   have HK : Hid (Kept (fun k => k < w.heap.size) w wr) := hK
   have HQ : Hid ((l.filter b).length = q) := hq
   clear hall hO hK hq he
   go_wp2
   go_ret
   exact ⟨ao, c, by rw [HQ.out]; rfl, by rw [HQ.out]; exact HO.out, HK.out⟩
inductive Zr6 (l : List Nat) (b : Nat -> Bool) : Int -> Prop
 | yes (k : Nat) : l.any b = true -> Zr6 l b (k : Int)
 | no : l.any b = false -> Zr6 l b (-1)
theorem zmr (l : List Nat) (n m : Nat) (hln : l.length = n) (hn : n <= 1000000) (hlt : ∀ i ∈ l, i < m) (a : Option Addr) (cap : Nat) (v : Value) (b : Nat -> Bool) (w : World) (hr : Zad (fun g => g < w.heap.size) w a l) (hv : Zfx w v b m) :
  Calls Tryz.prog 229 #[.slice a n cap, v] w fun e w' => ∃ z, Zr6 l b z /\ e = .returned (.int .i64 z) /\ Kept (fun k => k < w.heap.size) w w' := by
 obtain ⟨f, caps, rfl, he, hc⟩ := hv
 have HR : Hid (Zad (fun g => g < w.heap.size) w a l) := hr
 have HC : Hid (∀ i, i < m -> ∀ X, Kept (fun k => k < w.heap.size) w X -> Calls Tryz.prog f (#[.int .i64 (i : Int)] ++ caps) X fun e Y => e = .returned (.bool (b i)) /\ Kept (fun k => k < X.heap.size) X Y) := hc
 have HL : Hid (l.length = n) := hln
 have HLT : Hid (∀ i ∈ l, i < m) := hlt
 clear hr hc hln hlt
 go_enter Tryz.func229, Tryz.ntmps229
 go_upto_region 2 with fail
 go_loopg [8] n (fun gh s wr => ∃ j : Nat, gh = n - j /\ j <= n /\ s = .int .i64 (j : Int) /\ (l.take j).any b = false /\ Kept (fun k => k < w.heap.size) w wr)
 case atStart => exact ⟨0, rfl, Nat.zero_le _, rfl, rfl, Kept.refl _ _⟩
 case round =>
  obtain ⟨j, hgj, hj, rfl, hno, hK⟩ := hrel
  have HNO : Hid ((l.take j).any b = false) := hno
  clear hno
  by_cases hlt : j < n
  ·have hl : j < l.length := by rw [HL.out]; exact hlt
   obtain ⟨g, o, rfl, hg, d⟩ := HR.out j hl
   have d' : wr.cell? ⟨g, o + j, none⟩ = some (.int .i64 (l[j] : Int)) := (hK.cell (p := ⟨g, o + j, none⟩) hg).trans d
   have hx := HLT.out l[j] (List.getElem_mem hl)
   have htk : l.take (j + 1) = l.take j ++ [l[j]] := List.take_succ_eq_append_getElem hl
   have hmem := List.getElem_mem hl
   obtain ⟨x, hxe⟩ : ∃ x, l[j] = x := ⟨_, rfl⟩
   rw [hxe] at d' hx htk hmem
   have r := HC.out x hx wr hK
   obtain ⟨t, ht⟩ : ∃ t, b x = t := ⟨_, rfl⟩
   rw [ht] at r
   have HT : Hid (b x = t) := ht
   have HMEM : Hid (x ∈ l) := hmem
   have HTK : Hid (l.take (j + 1) = l.take j ++ [x]) := htk
   have HRR : Hid (Calls Tryz.prog f (#[.int .i64 (x : Int)] ++ caps) wr fun e Y => e = .returned (.bool t) /\ Kept (fun k => k < wr.heap.size) wr Y) := r
   have HK : Hid (Kept (fun k => k < w.heap.size) w wr) := hK
   clear d hx htk hxe r ht hK hmem
   go_wp2_with fail
   refine HRR.out.mono ?_
   rintro e w2 ⟨rfl, hk2⟩
   have HK2 : Hid (Kept (fun k => k < w.heap.size) w w2) := kt HK.out hk2
   clear HRR d' hk2 he
   cases t with
   | false =>
    go_wp2
    go_roundg (n - (j + 1))
    case rel => exact ⟨j + 1, rfl, by omega, by go_num, by rw [HTK.out, List.any_append, HNO.out]; simp [HT.out], HK2.out⟩
    case measure => omega
   | true =>
    go_wp2
    go_ret
    exact ⟨_, .yes j (List.any_eq_true.2 ⟨x, HMEM.out, HT.out⟩), rfl, HK2.out⟩
  ·have hjn : n = j := by omega
   subst hjn
   have HK : Hid (Kept (fun k => k < w.heap.size) w wr) := hK
   clear he hK
   go_wp2
   go_ret
   exact ⟨_, .no (by have := HNO.out; rw [List.take_of_length_le (by rw [HL.out]; exact Nat.le_refl _)] at this; exact this), rfl, HK.out⟩
theorem zh3 (l : List Nat) (n m : Nat) (hln : l.length = n) (hn : n <= 1000000) (hlt : ∀ i ∈ l, i < m) (a : Option Addr) (cap : Nat) (v : Value) (b : Nat -> Bool) (w : World) (hr : Zad (fun g => g < w.heap.size) w a l) (hv : Zfx w v b m) :
  Calls Tryz.prog 159 #[.slice a n cap, v] w fun e w' => e = .returned (.bool (l.any b)) /\ Kept (fun k => k < w.heap.size) w w' := by
 have r := zmr l n m hln hn hlt a cap v b w hr hv
 obtain ⟨q, hq⟩ : ∃ q, l.any b = q := ⟨_, rfl⟩
 have HQ : Hid (l.any b = q) := hq
 rw [hq]
 obtain ⟨f, caps, rfl, -, -⟩ := hv
 clear hr hq hln hlt
 go_enter Tryz.func159, Tryz.ntmps159
 go_wp2_with fail
 refine r.mono ?_
 rintro e w2 ⟨z, hz, rfl, hk⟩
 clear r
 cases hz with
 | yes k e =>
  have e0 : decide ((k : Int) >= 0) = true := decide_eq_true (by omega)
  have HE : Hid (q = true) := HQ.out.symm.trans e
  go_wp2
  go_ret
  exact ⟨by rw [HE.out]; rfl, hk⟩
 | no e =>
  have e0 : decide ((-1 : Int) >= 0) = false := by decide
  have HE : Hid (q = false) := HQ.out.symm.trans e
  go_wp2
  go_ret
  exact ⟨by rw [HE.out]; rfl, hk⟩
theorem zgr (P : Nat -> Bool) (x : Nat) (l : List Nat) : zee P (x :: l) = if P x = true then (x : Int) else zee P l := by
 unfold zee
 rw [List.find?_cons]
 cases P x <;> rfl
theorem zeg (P : Nat -> Bool) (l r : List Nat) : zee P (l ++ r) = if zee P l = -1 then zee P r else zee P l := by
 induction l with
 | nil => rw [List.nil_append, if_pos (show zee P [] = -1 from rfl)]
 | cons x l ih =>
  rw [List.cons_append, zgr, zgr, ih]
  cases P x with
  | true => simp
  | false => simp
theorem zp2 (K : Nat -> Prop) (p : Nat) (M : Dm) (R : Nat -> List Nat) (rk : Nat -> Nat) (P : Nd -> Int -> Bool) (v : Value) (w0 : World) (hd : DX K w0 p M) (hG : Good M R rk) (hn : M.n <= 100000) (ha : Zit w0 v P) :
  ∀ (d i : Nat), dn M.n rk i < d -> i < M.n -> ∀ X, Kept (fun k => k < w0.heap.size) w0 X ->
   Calls Tryz.prog 73 #[.pointer (some ⟨p, 0, none⟩), .int .i64 (i : Int), v] X fun e w' => e = .returned (.int .i64 (zee (fun k => P (M.nd k) (M.pl k).up) (tr M.n R i))) /\ Kept (fun k => k < X.heap.size) X w' := by
 intro d
 induction d with
 | zero => exact fun i h => absurd h (Nat.not_lt_zero _)
 | succ d ih =>
  intro i hdi hi X hX
  have rn := zc3 K p i M R X (hd.kept hX) hG.wf hi (by omega) hG.few
  have HIH : Hid (∀ k, k ∈ R i -> ∀ Y, Kept (fun k => k < X.heap.size) X Y -> Calls Tryz.prog 73 #[.pointer (some ⟨p, 0, none⟩), .int .i64 (k : Int), v] Y fun e w' => e = .returned (.int .i64 (zee (fun k => P (M.nd k) (M.pl k).up) (tr M.n R k))) /\ Kept (fun k => k < Y.heap.size) Y w') := fun k hk Y hY => by
   obtain ⟨h1, h2⟩ := hG.falls i hi k hk
   have := zfh h1 h2
   exact ih k (by omega) h1 Y (kt hX hY)
  have HA : Hid (Zit X v P) := ha.kept hX
  have HF : Hid ((M.nd i).attrs.length <= 1000) := hG.few i hi
  have HTR : Hid (tr M.n R i = i :: (R i).flatMap (tr M.n R)) := zcz hG.falls hi
  have HRL : Hid ((R i).length <= 100000) := Nat.le_trans (hG.wf.len_le hi) hn
  obtain ⟨P', hP'⟩ : ∃ P' : Nat -> Bool, (fun k => P (M.nd k) (M.pl k).up) = P' := ⟨_, rfl⟩
  have HPI : Hid (P (M.nd i) (M.pl i).up = P' i) := by rw [<- hP']; exact rfl
  rw [hP'] at HIH
  rw [hP', HTR.out]
  obtain ⟨Z, hZ⟩ : ∃ Z, zee P' (i :: (R i).flatMap (tr M.n R)) = Z := ⟨_, rfl⟩
  have HZ : Hid (Z = if P' i = true then (i : Int) else zee P' ((R i).flatMap (tr M.n R))) := by rw [<- hZ, zgr]; exact rfl
  rw [hZ]
  obtain ⟨f, caps, rfl, he, -⟩ := ha
  clear ih hdi hd hG hX hP' hZ
  go_enter Tryz.func73, Tryz.ntmps73
  go_wp2_with fail
  refine rn.mono ?_
  rintro e v1 ⟨ao, ac, ko, kc, rfl, hO, hQ, hK⟩
  obtain ⟨V, N, hV, hN, hb, hk, -⟩ := zar v1 (nV (M.nd i) ao ac (M.pl i).up ko (R i).length kc)   58
  have kXV : Kept (fun k => k < X.heap.size) X V := kt hK hk
  have haV : Zal (fun k => k < V.heap.size) V ao (M.nd i).attrs := (hO.atsAt (K' := fun k => k < v1.heap.size) fun g hg => (Zac.out hO hg).2).kept hk fun k h => ltl h hk.size
  have hrow : Zad (fun g => g < V.heap.size) V ko (R i) := (hQ.intsAt (F := fun g => g < v1.heap.size) fun g hg => (hQ.out hg).2).to (fun g hg => ltl hg hk.size) (fun g hg => hk.block g hg)
  have c5 : V.cell? ⟨N, 5, none⟩ = some (.slice ko (R i).length kc) := by rw [zaa hb]; rfl
  obtain ⟨f', caps', e', -, hc⟩ := HA.out
  injection e' with e1 e2 e3
  injection e1 with e1
  subst e1
  subst e3
  have r := hc (M.nd i) ao ac (M.pl i).up ko (R i).length kc V kXV HF.out haV
  rw [HPI.out] at r
  obtain ⟨cs, hcs⟩ : ∃ cs, nV (M.nd i) ao ac (M.pl i).up ko (R i).length kc = cs := ⟨_, rfl⟩
  have hcz : cs.size = 14 := by rw [<- hcs]; rfl
  have hcI := zez cs hcz
  have HV : Hid (v1.alloc (.cells (nV (M.nd i) ao ac (M.pl i).up ko (R i).length kc) 58) = V) := hV
  have HN : Hid (v1.heap.size = N) := hN
  have HK : Hid (Kept (fun k => k < X.heap.size) X V) := kXV
  have HNV : Hid (N < V.heap.size) := zai hb
  have HROW : Hid (Zad (fun g => g < V.heap.size) V ko (R i)) := hrow
  rw [hcs] at r hb
  have HR : Hid (Calls Tryz.prog f (#[.agg cs] ++ caps) V fun e Y => e = .returned (.bool (P' i)) /\ Kept (fun k => k < V.heap.size) V Y) := r
  obtain ⟨kl, hkl⟩ : ∃ kl, (R i).length = kl := ⟨_, rfl⟩
  have HKL : Hid ((R i).length = kl) := hkl
  have hkl9 : kl <= 100000 := by rw [<- hkl]; exact HRL.out
  rw [hkl] at c5
  clear rn hO hQ hK hV hN hk kXV hc r hcs haV hrow hkl
  go_upto_region 2 with fail
  rw [HV.out, HN.out]
  clear HV HN
  go_wp2_with (refine wpList_load_row rfl 58 _ rfl N rfl 58 cs (0, 0) _ hb Tryz.underlying58 rfl hcI ?_)
  refine HR.out.mono ?_
  rintro e w2 ⟨rfl, hk2⟩
  have HK2 : Hid (Kept (fun k => k < X.heap.size) X w2) := kt HK.out hk2
  have c5' : w2.cell? ⟨N, 5, none⟩ = some (.slice ko kl kc) := (hk2.cell (p := ⟨N, 5, none⟩) HNV.out).trans c5
  have HROW2 : Hid (Zad (fun g => g < w2.heap.size) w2 ko (R i)) := HROW.out.to (fun g hg => ltl hg hk2.size) (fun g hg => hk2.block g hg)
  obtain ⟨t, ht⟩ : ∃ t, P' i = t := ⟨_, rfl⟩
  rw [ht]
  have HT : Hid (P' i = t) := ht
  clear HR hk2 hb c5 HROW ht
  cases t with
  | true =>
   go_wp2
   go_ret
   exact ⟨by rw [HZ.out, if_pos HT.out]; rfl, HK2.out⟩
  | false =>
   go_upto_region 5 with fail
   go_loopg [25] kl (fun gh v25 wr => ∃ j : Nat, gh = kl - j /\ j <= kl /\ v25 = .int .i64 (j : Int) /\ zee P' (((R i).take j).flatMap (tr M.n R)) = -1 /\ Kept (fun k => k < w2.heap.size) w2 wr)
   case atStart => exact ⟨0, rfl, Nat.zero_le _, rfl, rfl, Kept.refl _ _⟩
   case round =>
    obtain ⟨j, hgj, hj, rfl, hno, hKr⟩ := hrel
    have HNO : Hid (zee P' (((R i).take j).flatMap (tr M.n R)) = -1) := hno
    have HKR : Hid (Kept (fun k => k < w2.heap.size) w2 wr) := hKr
    have HKX : Hid (Kept (fun k => k < X.heap.size) X wr) := kt HK2.out hKr
    clear hno
    by_cases hlt : j < kl
    ·have hl : j < (R i).length := by rw [HKL.out]; exact hlt
     obtain ⟨g, o, rfl, hg, dd⟩ := HROW2.out j hl
     have d' : wr.cell? ⟨g, o + j, none⟩ = some (.int .i64 ((R i)[j] : Int)) := (hKr.cell (p := ⟨g, o + j, none⟩) hg).trans dd
     have hs := zf4 (tr M.n R) (R i) j hl
     have hs2 := zh5 (tr M.n R) (R i) j hl
     have hmem := List.getElem_mem hl
     obtain ⟨x, hx⟩ : ∃ x, (R i)[j] = x := ⟨_, rfl⟩
     rw [hx] at d' hs hs2 hmem
     have r := HIH.out x hmem wr HKX.out
     obtain ⟨z, hz⟩ : ∃ z, zee P' (tr M.n R x) = z := ⟨_, rfl⟩
     rw [hz] at r
     have HS : Hid (zee P' ((R i).flatMap (tr M.n R)) = if z = -1 then zee P' (((R i).drop (j + 1)).flatMap (tr M.n R)) else z) := by rw [hs, zeg, if_pos HNO.out, zeg, hz]; exact rfl
     have HS2 : Hid (zee P' (((R i).take (j + 1)).flatMap (tr M.n R)) = z) := by rw [hs2, zeg, if_pos HNO.out]; exact hz
     clear dd hs hs2 hx hmem hz hKr
     go_wp2_with fail
     refine r.mono ?_
     rintro e w3 ⟨rfl, hk3⟩
     have HK3 : Hid (Kept (fun k => k < w2.heap.size) w2 w3) := kt HKR.out hk3
     have HK3X : Hid (Kept (fun k => k < X.heap.size) X w3) := kt HKX.out hk3
     clear r hk3 d' he
     by_cases cz : z = -1
     ·subst cz
      go_wp2
      go_roundg (kl - (j + 1))
      case rel => exact ⟨j + 1, rfl, by omega, by go_num, HS2.out, HK3.out⟩
      case measure => omega
     ·have e1 : (z == -1) = false := by simpa using cz
      have e2 : (z != -1) = true := by simp [cz]
      have HCZ : Hid (¬ z = -1) := cz
      clear cz
      go_wp2
      go_ret
      exact ⟨by rw [HZ.out, if_neg (by rw [HT.out]; simp), HS.out, if_neg HCZ.out]; rfl, HK3X.out⟩
    ·have hjn : kl = j := by omega
     subst hjn
     have HE : Hid (zee P' ((R i).flatMap (tr M.n R)) = -1) := by have := HNO.out; rw [List.take_of_length_le (by rw [HKL.out]; exact Nat.le_refl _)] at this; exact this
     clear hKr he
     go_wp2
     go_ret
     exact ⟨by rw [HZ.out, if_neg (by rw [HT.out]; simp), HE.out]; rfl, HKX.out⟩
end
section
open Go.RowKit
theorem ztb (K : Nat -> Prop) (p : Nat) (M : Dm) (i : Int) (w : World) (h : DX K w p M) (hi : i < 0 \/ (M.n : Int) <= i) (hn : M.n <= 1000000) :
  Calls Tryz.prog 152 #[.pointer (some ⟨p, 0, none⟩), .int .i64 i] w fun e w' => e = .returned (.int .i64 (-1)) /\ Kept (fun k => k < w.heap.size) w w' := by
 have r1 := zm9 K p i M w h hi hn
 have HX : Hid (DX K w p M) := h
 clear h hi
 go_enter Tryz.func152, Tryz.ntmps152
 go_wp2_with fail
 refine r1.mono ?_
 rintro e w1 ⟨rfl, hK1⟩
 have r2 := ze1 K p M (-1) w1 (HX.out.kept hK1) (.inl (by decide)) hn
 have HK1 : Hid (Kept (fun k => k < w.heap.size) w w1) := hK1
 clear r1 hK1
 go_upto_region 2 with fail
 go_wp2_with fail
 refine r2.mono ?_
 rintro e v1 ⟨rfl, hK2⟩
 have HK2 : Hid (∀ o, Kept (fun k => k < w.heap.size) w (v1.alloc o)) := fun o => (kt HK1.out hK2).alloc (fun k h => ltl h (Nat.le_trans HK1.out.size hK2.size)) o
 clear r2 hK2
 go_wp2
 go_ret
 exact ⟨rfl, HK2.out _⟩
structure Rd (K : Nat -> Prop) (w : World) (p : Nat) (M : Dm) (R G : Nat -> List Nat) (rk : Nat -> Nat) : Prop where
 d : DX K w p M
 inv : Inv M R G rk
 le : M.n <= 100000
theorem Rd.kept {K : Nat -> Prop} {w w' : World} {p : Nat} {M : Dm} {R G : Nat -> List Nat} {rk : Nat -> Nat} (h : Rd K w p M R G rk) (hk : Kept (fun k => k < w.heap.size) w w') : Rd K w' p M R G rk := ⟨h.d.kept hk, h.inv, h.le⟩
structure Zb1 (w V : World) (N : Nat) (x : Nd) (up : Int) (Q : List Nat) (ao : Option Addr) (ac : Nat) (ko : Option Addr) (kc : Nat) : Prop where
 kept : Kept (fun k => k < w.heap.size) w V
 blk : V.heap[N]? = some (.cells (nV x ao ac up ko Q.length kc) 58 (0, 0))
 ats : Zal (fun k => k < V.heap.size) V ao x.attrs
 row : Zad (fun g => g < V.heap.size) V ko Q
 own : Zac (fun k => k < w.heap.size) V 3 1 ko Q.length kc (ivs Q)
theorem Zb1.of {w v1 : World} {x : Nd} {up : Int} {Q : List Nat} {ao ko : Option Addr} {ac kc : Nat} (hO : Zac (fun k => k < w.heap.size) v1 108 2 ao x.attrs.length ac (zab x.attrs)) (hQ : Zac (fun k => k < w.heap.size) v1 3 1 ko Q.length kc (ivs Q)) (hK : Kept (fun k => k < w.heap.size) w v1) :
  ∃ V N, v1.alloc (.cells (nV x ao ac up ko Q.length kc) 58) = V /\ v1.heap.size = N /\ Zb1 w V N x up Q ao ac ko kc := by
 obtain ⟨V, N, hV, hN, hb, hk, -⟩ := zar v1 (nV x ao ac up ko Q.length kc)   58
 exact ⟨V, N, hV, hN, kt hK hk, hb, (hO.atsAt (K' := fun k => k < v1.heap.size) fun g hg => (Zac.out hO hg).2).kept hk fun k h => ltl h hk.size,
  (hQ.intsAt (F := fun g => g < v1.heap.size) fun g hg => (hQ.out hg).2).to (fun g hg => ltl hg hk.size) (fun g hg => hk.block g hg), hQ.to (fun g hg => (hQ.out hg).1) (fun g hg => hk.block g (hQ.out hg).2)⟩
section
variable {w V V' : World} {N : Nat} {x : Nd} {up : Int} {Q : List Nat} {ao ko : Option Addr} {ac kc : Nat}
theorem Zb1.later (h : Zb1 w V N x up Q ao ac ko kc) (hk : Kept (fun k => k < V.heap.size) V V') : Zb1 w V' N x up Q ao ac ko kc :=
 ⟨h.kept.trans (hk.mono fun k hh => ltl hh h.kept.size), by rw [hk.block N (zai h.blk)]; exact h.blk, h.ats.kept hk fun k hh => ltl hh hk.size, h.row.to (fun g hg => ltl hg hk.size) (fun g hg => hk.block g hg), h.own.to (fun g hg => (h.own.out hg).1) (fun g hg => hk.block g (h.own.out hg).2)⟩
theorem Zb1.c0 (h : Zb1 w V N x up Q ao ac ko kc) : V.cell? ⟨N, 0, none⟩ = some (.int .u8 (x.kind : Int)) := by rw [zaa h.blk]; rfl
theorem Zb1.c4 (h : Zb1 w V N x up Q ao ac ko kc) : V.cell? ⟨N, 4, none⟩ = some (.int .i64 up) := by rw [zaa h.blk]; rfl
theorem Zb1.c5 (h : Zb1 w V N x up Q ao ac ko kc) : V.cell? ⟨N, 5, none⟩ = some (.slice ko Q.length kc) := by rw [zaa h.blk]; rfl
theorem Zb1.c6 (h : Zb1 w V N x up Q ao ac ko kc) : V.cell? ⟨N, 6, none⟩ = some (.int .i64 x.shadow) := by rw [zaa h.blk]; rfl
theorem Zb1.c7 (h : Zb1 w V N x up Q ao ac ko kc) : V.cell? ⟨N, 7, none⟩ = some (.int .i64 x.host) := by rw [zaa h.blk]; rfl
theorem Zb1.c10 (h : Zb1 w V N x up Q ao ac ko kc) : V.cell? ⟨N, 10, none⟩ = some (.bool x.fl.b) := by rw [zaa h.blk]; rfl
end
section
variable {K : Nat -> Prop} {w : World} {p : Nat} {M : Dm} {R G : Nat -> List Nat} {rk : Nat -> Nat}
theorem Rd.node (h : Rd K w p M R G rk) {i : Nat} (hi : i < M.n) : Calls Tryz.prog 41 #[.pointer (some ⟨p, 0, none⟩), .int .i64 (i : Int)] w fun e w' => Told w (M.nd i) (M.pl i).up (R i) e w' :=
 zc3 K p i M R w h.d h.inv.good.wf hi (by have := h.le; omega) h.inv.good.few
theorem Rd.noNode (h : Rd K w p M R G rk) {i : Int} (hi : i < 0 \/ (M.n : Int) <= i) : Calls Tryz.prog 41 #[.pointer (some ⟨p, 0, none⟩), .int .i64 i] w fun e w' => e = .returned (.tuple #[.agg za2, .int .u16 80]) /\ Kept (fun k => k < w.heap.size) w w' :=
 ze1 K p M i w h.d hi (by have := h.le; omega)
theorem Rd.of (h : Rd K w p M R G rk) (i : Int) : Calls Tryz.prog 152 #[.pointer (some ⟨p, 0, none⟩), .int .i64 i] w fun e w' => e = .returned (.int .i64 (ofZ M i)) /\ Kept (fun k => k < w.heap.size) w w' := by
 by_cases c : i < 0 \/ (M.n : Int) <= i
 ·rw [zrt c]
  exact ztb K p M i w h.d c (by have := h.le; omega)
 ·obtain ⟨k, rfl⟩ : ∃ k : Nat, i = (k : Int) := ⟨i.toNat, by omega⟩
  have hk : k < M.n := by omega
  exact (zuj K p k M R rk w h.d h.inv.good hk (by have := h.le; omega)).mono fun e w' ⟨z, h1, h2, h3⟩ => by rw [zcr hk h1]; exact ⟨h2, h3⟩
theorem Rd.slot (h : Rd K w p M R G rk) {i : Nat} (hi : i < M.n) : Calls Tryz.prog 124 #[.pointer (some ⟨p, 0, none⟩), .int .i64 (i : Int)] w fun e w' => e = .returned (.int .i64 (M.gf i).up) /\ w' = w :=
 zpg K p i M w h.d hi (by have := h.le; omega)
theorem Rd.first (h : Rd K w p M R G rk) {i : Nat} (hi : i < M.n) {v : Value} {P : Nd -> Int -> Bool} (ha : Zit w v P) : Calls Tryz.prog 73 #[.pointer (some ⟨p, 0, none⟩), .int .i64 (i : Int), v] w fun e w' => e = .returned (.int .i64 (zee (fun k => P (M.nd k) (M.pl k).up) (tr M.n R i))) /\ Kept (fun k => k < w.heap.size) w w' :=
 zp2 K p M R rk P v w h.d h.inv.good h.le ha _ i (Nat.lt_succ_self _) hi w (Kept.refl _ _)
theorem Rd.byNumber (h : Rd K w p M R G rk) {v : Value} {P : Nd -> Int -> Bool} (ha : Zit w v P) : Calls Tryz.prog 89 #[.pointer (some ⟨p, 0, none⟩), v] w fun e w' => ∃ u, e = .returned u /\ Zfx w' u (fun i => P (M.nd i) (M.pl i).up) M.n /\ Kept (fun k => k < w.heap.size) w w' :=
 zi0 K p M R P v w h.d h.inv.good.wf (by have := h.le; omega) h.inv.good.few ha
theorem Rd.few (h : Rd K w p M R G rk) {i : Nat} (hi : i < M.n) : (M.nd i).attrs.length <= 1000 := h.inv.good.few i hi
end
def zj8 : Nd := ⟨0, [], [], [], ⟨false, false, false, false, false⟩, 0, 0, 0⟩
theorem zos : za2 = nV zj8 none 0 0 none 0 0 := rfl
noncomputable def zg4 (M : Dm) (R : Nat -> List Nat) (i : Int) : Int := if i < 0 \/ (M.n : Int) <= i then -1 else zbi M R i.toNat
noncomputable def zkl (M : Dm) (R G : Nat -> List Nat) (i : Int) : List Nat := if i < 0 \/ (M.n : Int) <= i then [] else za8 M R G i.toNat
theorem zga {M : Dm} {R : Nat -> List Nat} {i : Nat} (hi : i < M.n) : zg4 M R (i : Int) = zbi M R i := by
 unfold zg4
 rw [if_neg (by omega), Int.toNat_natCast]
theorem zdk {M : Dm} {R G : Nat -> List Nat} {i : Nat} (hi : i < M.n) : zkl M R G (i : Int) = za8 M R G i := by
 unfold zkl
 rw [if_neg (by omega), Int.toNat_natCast]
theorem enter73 (args : Array Value) (X : World) : (callFunc 73 args).run Tryz.prog X = .ok (.enter 73 args) X := zan Tryz.func73 (by kernel_rfl) (c := _) rfl args X
theorem enter74 (args : Array Value) (X : World) : (callFunc 74 args).run Tryz.prog X = .ok (.enter 74 args) X := zan Tryz.func74 (by kernel_rfl) (c := _) rfl args X
theorem enter87 (args : Array Value) (X : World) : (callFunc 87 args).run Tryz.prog X = .ok (.enter 87 args) X := zan Tryz.func87 (by kernel_rfl) (c := _) rfl args X
theorem enter89 (args : Array Value) (X : World) : (callFunc 89 args).run Tryz.prog X = .ok (.enter 89 args) X := zan Tryz.func89 (by kernel_rfl) (c := _) rfl args X
theorem enter123 (args : Array Value) (X : World) : (callFunc 123 args).run Tryz.prog X = .ok (.enter 123 args) X := zan Tryz.func123 (by kernel_rfl) (c := _) rfl args X
theorem enter157 (args : Array Value) (X : World) : (callFunc 157 args).run Tryz.prog X = .ok (.enter 157 args) X := zan Tryz.func157 (by kernel_rfl) (c := _) rfl args X
section
variable {K : Nat -> Prop} {w : World} {p : Nat} {M : Dm} {R G : Nat -> List Nat} {rk : Nat -> Nat}
theorem Rd.byHand (h : Rd K w p M R G rk) {i : Nat} (s : Nat) (hi : i < M.n) :
  Calls Tryz.prog 72 #[.pointer (some ⟨p, 0, none⟩), .int .i64 (i : Int), .int .i64 (s : Int)] w fun e w' => e = .returned (.int .i64 (zeo M i s)) /\ Kept (fun k => k < w.heap.size) w w' := by
 have r1 := h.slot hi
 have r2 := h.of (M.gf i).up
 obtain ⟨z, hz⟩ : ∃ z, zeo M i s = z := ⟨_, rfl⟩
 have HZ : Hid (zeo M i s = z) := hz
 rw [hz]
 obtain ⟨o, ho⟩ : ∃ o, ofZ M (M.gf i).up = o := ⟨_, rfl⟩
 have HO : Hid (ofZ M (M.gf i).up = o) := ho
 rw [ho] at r2
 obtain ⟨g, hg⟩ : ∃ g, (M.gf i).up = g := ⟨_, rfl⟩
 have HG : Hid ((M.gf i).up = g) := hg
 rw [hg] at r1 r2
 clear h hz ho hg
 go_enter Tryz.func72, Tryz.ntmps72
 go_wp2_with (go_at_call 124; refine r1.mono ?_; rintro e1 w3 ⟨rfl, hw3⟩; replace hw3 := hw3.symm; subst hw3)
 refine r2.mono ?_
 rintro e w2 ⟨rfl, hk⟩
 clear r1 r2
 by_cases c : o = (s : Int)
 ·have HE : Hid (z = g) := by rw [<- HZ.out]; unfold zeo; rw [HO.out, HG.out, if_pos c]; exact rfl
  subst c
  go_wp2
  go_ret
  exact ⟨by rw [HE.out]; rfl, hk⟩
 ·have HE : Hid (z = -1) := by rw [<- HZ.out]; unfold zeo; rw [HO.out, if_neg c]; exact rfl
  have e1 : (o == (s : Int)) = false := by simpa using c
  have e2 : (o != (s : Int)) = true := by simp [c]
  clear c
  go_wp2
  go_ret
  exact ⟨by rw [HE.out]; rfl, hk⟩
theorem Rd.find (h : Rd K w p M R G rk) (i : Int) :
  Calls Tryz.prog 16 #[.pointer (some ⟨p, 0, none⟩), .int .i64 i] w fun e w' => e = .returned (.int .i64 (zg4 M R i)) /\ Kept (fun k => k < w.heap.size) w w' := by
 by_cases cI : i < 0 \/ (M.n : Int) <= i
 ·have rn := h.noNode cI
  have hz : zg4 M R i = -1 := by unfold zg4; rw [if_pos cI]
  rw [hz]
  clear h hz cI
  go_enter Tryz.func16, Tryz.ntmps16
  go_wp2_with fail
  refine rn.mono ?_
  rintro e v1 ⟨rfl, hK1⟩
  obtain ⟨V1, N1, hV1, hN1, hb1, hk1, -⟩ := zar v1 za2   58
  have rs := zf2 zj8 none 0 0 none 0 0 V1
  rw [<- zos] at rs
  have kV : Kept (fun k => k < w.heap.size) w V1 := kt hK1 hk1
  have HK : Hid (Kept (fun k => k < w.heap.size) w V1) := kV
  have HV1 : Hid (v1.alloc (.cells za2 58) = V1) := hV1
  have HN1 : Hid (v1.heap.size = N1) := hN1
  have hs0 : za0 zj8 = false := rfl
  rw [hs0] at rs
  clear rn hV1 hN1 hk1 kV hK1
  go_upto_region 2 with fail
  rw [HV1.out, HN1.out]
  clear HV1 HN1
  go_wp2_with (refine wpList_load_row rfl 58 _ rfl N1 rfl 58 za2 (0, 0) _ hb1 Tryz.underlying58 rfl (zez za2 rfl) ?_)
  refine rs.mono ?_
  rintro e w2 ⟨rfl, hk2⟩
  clear rs
  go_wp2
  go_ret
  exact ⟨rfl, kt HK.out hk2⟩
 ·obtain ⟨k, rfl⟩ : ∃ k : Nat, i = (k : Int) := ⟨i.toNat, by omega⟩
  have hk : k < M.n := by omega
  rw [zga hk]
  have HC : Hid (Zoe M R G k (zbi M R k)) := h.inv.findC hk
  obtain ⟨Z, hZ⟩ : ∃ Z, zbi M R k = Z := ⟨_, rfl⟩
  rw [hZ] at HC
  rw [hZ]
  have rn := h.node hk
  have HR : Hid (Rd K w p M R G rk) := h
  have HF : Hid ((M.nd k).attrs.length <= 1000) := h.few hk
  have HKL : Hid (k < M.n) := hk
  have HUPS : Hid ((M.pl k).up = -1 \/ ∃ u : Nat, u < M.n /\ (M.pl k).up = (u : Int)) := h.inv.ups' hk
  clear h hZ cI hk
  go_enter Tryz.func16, Tryz.ntmps16
  go_wp2_with fail
  refine rn.mono ?_
  rintro e v1 ⟨ao1, ac1, ko1, kc1, rfl, hO1, hQ1, hK1⟩
  obtain ⟨V1, N1, hV1, hN1, hB1⟩ := Zb1.of (up := (M.pl k).up) hO1 hQ1 hK1
  have HV1 : Hid (v1.alloc (.cells (nV (M.nd k) ao1 ac1 ((M.pl k).up) ko1 (R k).length kc1) 58) = V1) := hV1
  have HN1 : Hid (v1.heap.size = N1) := hN1
  have HB1 : Hid (Zb1 w V1 N1 (M.nd k) ((M.pl k).up) (R k) ao1 ac1 ko1 kc1) := hB1
  have rs := zf2 (M.nd k) ao1 ac1 (M.pl k).up ko1 (R k).length kc1 V1
  have hb1 := hB1.blk
  obtain ⟨cs, hcs⟩ : ∃ cs, nV (M.nd k) ao1 ac1 (M.pl k).up ko1 (R k).length kc1 = cs := ⟨_, rfl⟩
  have hcz : cs.size = 14 := by rw [<- hcs]; rfl
  have HCS : Hid (nV (M.nd k) ao1 ac1 (M.pl k).up ko1 (R k).length kc1 = cs) := hcs
  rw [hcs] at rs hb1
  obtain ⟨q, hq⟩ : ∃ q, za0 (M.nd k) = q := ⟨_, rfl⟩
  have HQ : Hid (za0 (M.nd k) = q) := hq
  rw [hq] at rs
  clear rn hO1 hQ1 hK1 hV1 hN1 hB1 hcs hq
  go_upto_region 2 with fail
  rw [HV1.out, HN1.out]
  clear HV1 HN1
  go_wp2_with (refine wpList_load_row rfl 58 _ rfl N1 rfl 58 cs (0, 0) _ hb1 Tryz.underlying58 rfl (zez cs hcz) ?_)
  refine rs.mono ?_
  rintro e w2 ⟨rfl, hk2⟩
  have hB := HB1.out.later hk2
  have HB : Hid (Zb1 w w2 N1 (M.nd k) (M.pl k).up (R k) ao1 ac1 ko1 kc1) := hB
  have c4 := hB.c4
  have HK2 : Hid (Kept (fun k => k < w.heap.size) w w2) := hB.kept
  clear rs hk2 hb1 HB1 hB
  cases q with
  | false =>
   have HE : Hid (Z = -1) := by
    cases HC.out with
    | none e _ => exact e
    | hand _ _ _ _ h1 _ _ _ _ => rw [HQ.out] at h1; cases h1
    | name _ _ _ _ h1 _ _ _ _ => rw [HQ.out] at h1; cases h1
   clear c4
   go_wp2
   go_ret
   exact ⟨by rw [HE.out]; rfl, HK2.out⟩
  | true =>
   have R2 := HR.out.kept HK2.out
   rcases HUPS.out with hu | ⟨u, hun, hu⟩
   ·have HE : Hid (Z = -1) := by
     cases HC.out with
     | none e _ => exact e
     | hand _ _ _ _ _ e _ _ _ => omega
     | name _ _ _ _ _ e _ _ _ => omega
    rw [hu] at c4
    have rn2 := R2.noNode (i := -1) (.inl (by decide))
    clear R2 hu
    go_wp2_with fail
    refine rn2.mono ?_
    rintro e v2 ⟨rfl, hK3⟩
    obtain ⟨V2, N2, hV2, hN2, hb2, hk2, -⟩ := zar v2 za2   58
    have d0 : V2.cell? ⟨N2, 0, none⟩ = some (.int .u8 0) := by rw [zaa hb2]; rfl
    have HK3 : Hid (Kept (fun k => k < w.heap.size) w V2) := (kt HK2.out hK3).trans (hk2.mono fun k h => ltl h (Nat.le_trans HK2.out.size hK3.size))
    have HV2 : Hid (v2.alloc (.cells za2 58) = V2) := hV2
    have HN2 : Hid (v2.heap.size = N2) := hN2
    clear rn2 hV2 hN2 hb2 hk2 hK3 c4
    go_upto_region 5 with fail
    rw [HV2.out, HN2.out]
    clear HV2 HN2
    go_wp2
    go_ret
    exact ⟨by rw [HE.out]; rfl, HK3.out⟩
   ·rw [hu] at c4
    have HU : Hid ((M.pl k).up = (u : Int)) := hu
    have HUN : Hid (u < M.n) := hun
    have rn2 := R2.node hun
    have HSH : Hid ((M.nd u).shadow = -1 \/ ∃ s : Nat, s < M.n /\ (M.nd u).shadow = (s : Int) /\ (M.nd u).kind = 1 /\ (M.nd s).kind = 5 /\ (M.nd s).host = (u : Int)) := R2.inv.core.shad u hun
    clear R2 hu hun
    go_wp2_with fail
    refine rn2.mono ?_
    rintro e v2 ⟨ao2, ac2, ko2, kc2, rfl, hO2, hQ2, hK2⟩
    obtain ⟨V2, N2, hV2, hN2, hB2⟩ := Zb1.of (up := (M.pl u).up) hO2 hQ2 hK2
    have HV2 : Hid (v2.alloc (.cells (nV (M.nd u) ao2 ac2 ((M.pl u).up) ko2 (R u).length kc2) 58) = V2) := hV2
    have HN2 : Hid (v2.heap.size = N2) := hN2
    have HB2 : Hid (Zb1 w2 V2 N2 (M.nd u) ((M.pl u).up) (R u) ao2 ac2 ko2 kc2) := hB2
    have HBB : Hid (Zb1 w V2 N1 (M.nd k) (M.pl k).up (R k) ao1 ac1 ko1 kc1) := HB.out.later hB2.kept
    have d0 := hB2.c0
    have d6 := hB2.c6
    have HK3 : Hid (Kept (fun k => k < w.heap.size) w V2) := HBB.out.kept
    clear rn2 hO2 hQ2 hK2 hV2 hN2 hB2 c4
    rcases HSH.out with hs | ⟨s, hsn, hs, hk1, hk5, hho⟩
    ·have HE : Hid (Z = -1) := by
      cases HC.out with
      | none e _ => exact e
      | hand u' _ _ _ _ e1 e2 _ _ =>
       have : u' = u := by have := HU.out; omega
       subst this; omega
      | name u' _ _ _ _ e1 e2 _ _ =>
       have : u' = u := by have := HU.out; omega
       subst this; omega
     rw [hs] at d6
     obtain ⟨kd, hkd⟩ : ∃ kd, (M.nd u).kind = kd := ⟨_, rfl⟩
     rw [hkd] at d0
     clear hs hkd
     go_upto_region 5 with fail
     rw [HV2.out, HN2.out]
     clear HV2 HN2
     by_cases c1 : kd = 1
     ·subst c1
      go_wp2
      go_ret
      exact ⟨by rw [HE.out]; rfl, HK3.out⟩
     ·have e1 : ((kd : Int) == 1) = false := by simp; omega
      have e2 : ((kd : Int) != 1) = true := by simp; omega
      clear c1
      go_wp2
      go_ret
      exact ⟨by rw [HE.out]; rfl, HK3.out⟩
    ·rw [hs] at d6
     rw [hk1] at d0
     have rn3 := (HR.out.kept HK3.out).node hsn
     have e6 : ((s : Int) == -1) = false := by simp
     have e6' : ¬ (s : Int) = -1 := by omega
     have HS : Hid ((M.nd u).shadow = (s : Int)) := hs
     have HSN : Hid (s < M.n) := hsn
     clear hs hk1 hk5 hho hsn
     go_upto_region 5 with fail
     rw [HV2.out, HN2.out]
     clear HV2 HN2
     go_wp2_with fail
     refine rn3.mono ?_
     rintro e v3 ⟨ao3, ac3, ko3, kc3, rfl, hO3, hQ3, hK3⟩
     obtain ⟨V3, N3, hV3, hN3, hB3⟩ := Zb1.of (up := (M.pl s).up) hO3 hQ3 hK3
     have HV3 : Hid (v3.alloc (.cells (nV (M.nd s) ao3 ac3 ((M.pl s).up) ko3 (R s).length kc3) 58) = V3) := hV3
     have HN3 : Hid (v3.heap.size = N3) := hN3
     have HB3 : Hid (Zb1 V2 V3 N3 (M.nd s) ((M.pl s).up) (R s) ao3 ac3 ko3 kc3) := hB3
     have g10 := hB3.c10
     have HB2' := HB2.out.later hB3.kept
     have d6' := HB2'.c6
     rw [HS.out] at d6'
     have HBB3 : Hid (Zb1 w V3 N1 (M.nd k) (M.pl k).up (R k) ao1 ac1 ko1 kc1) := HBB.out.later hB3.kept
     have HK4 : Hid (Kept (fun k => k < w.heap.size) w V3) := HBB3.out.kept
     obtain ⟨mb, hmb⟩ : ∃ b, (M.nd s).fl.b = b := ⟨_, rfl⟩
     have HMB : Hid ((M.nd s).fl.b = mb) := hmb
     rw [hmb] at g10
     clear rn3 hO3 hQ3 hK3 hV3 hN3 hB3 d0 d6 HB2' hmb HB2
     cases mb with
     | true =>
      have HE : Hid (Z = zeo M k s) := by
       cases HC.out with
       | none e c =>
        rcases c with c | c | ⟨u', _, c1, c2⟩
        ·rw [HQ.out] at c; cases c
        ·have := HU.out; omega
        ·have : u' = u := by have := HU.out; omega
         subst this; have := HS.out; omega
       | hand u' s' _ _ _ e1 e2 _ e =>
        have : u' = u := by have := HU.out; omega
        subst this
        have : s' = s := by have := HS.out; omega
        subst this; exact e
       | name u' s' _ _ _ e1 e2 b e =>
        have : u' = u := by have := HU.out; omega
        subst this
        have : s' = s := by have := HS.out; omega
        subst this; rw [HMB.out] at b; cases b
      have rb := (HR.out.kept HK4.out).byHand s HKL.out
      obtain ⟨hz, hhz⟩ : ∃ z, zeo M k s = z := ⟨_, rfl⟩
      rw [hhz] at rb HE
      clear hhz
      go_upto_region 8 with fail
      rw [HV3.out, HN3.out]
      clear HV3 HN3
      go_wp2_with fail
      refine rb.mono ?_
      rintro e w4 ⟨rfl, hk4⟩
      clear rb
      go_wp2
      go_ret
      exact ⟨by rw [HE.out]; rfl, kt HK4.out hk4⟩
     | false =>
      have HE : Hid (Z = zkf M R (atV zbh (M.nd k).attrs) s) := by
       cases HC.out with
       | none e c =>
        rcases c with c | c | ⟨u', _, c1, c2⟩
        ·rw [HQ.out] at c; cases c
        ·have := HU.out; omega
        ·have : u' = u := by have := HU.out; omega
         subst this; have := HS.out; omega
       | hand u' s' _ _ _ e1 e2 b e =>
        have : u' = u := by have := HU.out; omega
        subst this
        have : s' = s := by have := HS.out; omega
        subst this; rw [HMB.out] at b; cases b
       | name u' s' _ _ _ e1 e2 b e =>
        have : u' = u := by have := HU.out; omega
        subst this
        have : s' = s := by have := HS.out; omega
        subst this; exact e
      have HBLK : Hid (∀ Y, Kept (fun k => k < V3.heap.size) V3 Y -> Y.heap[N1]? = some (.cells cs 58 (0, 0))) := fun Y hY => by rw [<- HCS.out]; exact (HBB3.out.later hY).blk
      have HD6 : Hid (∀ Y, Kept (fun k => k < V3.heap.size) V3 Y -> Y.cell? ⟨N2, 6, none⟩ = some (.int .i64 (s : Int))) := fun Y hY => (hY.cell (p := ⟨N2, 6, none⟩) (World.block_lt_of_cell? V3 _ d6')).trans d6'
      have R65 : Hid (∀ Y, Kept (fun k => k < V3.heap.size) V3 Y -> Calls Tryz.prog 75 #[.agg cs, .string ⟨#[115, 108, 111, 116]⟩] Y fun e w' => e = .returned (sv (atV zbh (M.nd k).attrs)) /\ Kept (fun k => k < Y.heap.size) Y w') := fun Y hY => by
       have := zf9 (M.nd k) ao1 ac1 (M.pl k).up ko1 (R k).length kc1 ⟨#[115, 108, 111, 116]⟩ Y HF.out (HBB3.out.later hY).ats
       rw [ByteArray.toList_eq, HCS.out] at this
       exact this
      have RR : Hid (∀ Y, Kept (fun k => k < V3.heap.size) V3 Y -> Rd K Y p M R G rk) := fun Y hY => (HR.out.kept HK4.out).kept hY
      clear d6'
      go_upto_region 8 with fail
      rw [HV3.out, HN3.out]
      clear HV3 HN3
      go_upto_region 10 with fail
      refine wp_region_held_drew (S := fun Y => Kept (fun k => k < V3.heap.size) V3 Y) (by kernel_rfl) ((Kept.refl _ V3).drew) (fun hHeld => ?_)
      refine tkH 0 50 (.pointer (some ⟨p, 0, none⟩)) rfl rfl (by kernel_rfl) (by rfl) (by intro Y hY; go_simp; try with_reducible rfl) (fun _ _ _ h => h) hHeld ?_
      try simp only [Act.put, sA, s0, s1]
      refine tkH 1 51 (.pointer (some ⟨N2, 6, none⟩)) rfl rfl (by kernel_rfl) (by rfl) (by intro Y hY; go_simp; try with_reducible rfl) (fun _ _ _ h => h) hHeld ?_
      try simp only [Act.put, sA, s0, s1]
      refine tkH 2 52 (.int .i64 (s : Int)) rfl rfl (by kernel_rfl) (by rfl) (by intro Y hY; have hc := HD6.out Y hY; go_simp; try with_reducible rfl) (fun _ _ _ h => h) hHeld ?_
      try simp only [Act.put, sA, s0, s1]
      refine tkH 3 53 (.agg cs) rfl rfl (by kernel_rfl) (by rfl) (by intro Y hY; exact zb4 rfl rfl (HBLK.out Y hY) hcz) (fun _ _ _ h => h) hHeld ?_
      try simp only [Act.put, sA, s0, s1]
      refine clH 4 54 75 #[.agg cs, .string ⟨#[115, 108, 111, 116]⟩] rfl rfl (by kernel_rfl) (by rfl) rfl (by first | rfl | (simp [Act.eval]; done) | (simp [Act.eval, Act.put]; done)) (enter75 _ _) (R65.out _ hHeld) ?_
      rintro e Y ⟨rfl, hk9⟩
      refine ⟨_, rfl, kt hHeld hk9, fun hHeld2 => ?_⟩
      replace hHeld := hHeld2
      clear hHeld2
      try simp only [Act.put, sA, s0, s1]
      refine clH 5 55 74 #[sv (atV zbh (M.nd k).attrs)] rfl rfl (by kernel_rfl) (by rfl) rfl (by first | rfl | (simp [Act.eval]; done) | (simp [Act.eval, Act.put]; done)) (enter74 _ _) (zev _ _) ?_
      rintro e Y2 ⟨rfl, rfl⟩
      refine ⟨_, rfl, hHeld.trans (((Kept.refl (fun k => k < Y.heap.size) Y).alloc (fun _ h => h) (.cells #[sv (atV zbh (M.nd k).attrs)] 9)).mono fun k h => ltl h hHeld.size), fun hHeld2 => ?_⟩
      replace hHeld := hHeld2
      clear hHeld2
      try simp only [Act.put, sA, s0, s1]
      refine clH 6 56 73 #[.pointer (some ⟨p, 0, none⟩), .int .i64 (s : Int), .func (.func 153) #[] #[.pointer (some ⟨Y.heap.size, 0, none⟩)]] rfl rfl (by kernel_rfl) (by rfl) rfl (by first | rfl | (simp [Act.eval]; done) | (simp [Act.eval, Act.put]; done)) (enter73 _ _) ((RR.out _ hHeld).first HSN.out (zjl (s := ⟨(atV zbh (M.nd k).attrs).toArray⟩) (b := Y.heap.size) (by rw [zaa (heap_alloc_new Y _)]; rfl))) ?_
      rintro e Y3 ⟨rfl, hk9⟩
      refine ⟨_, rfl, kt hHeld hk9, fun hHeld2 => ?_⟩
      replace hHeld := hHeld2
      clear hHeld2
      try simp only [Act.put, sA, s0, s1]
      refine tkH 7 4 (.int .i64 Z) rfl rfl (by kernel_rfl) (by rfl) (by intro Y hY; rw [HE.out]; go_simp; rfl) (fun _ _ _ h => h) hHeld ?_
      try simp only [Act.put, sA, s0, s1]
      refine wpAnyH_done (by kernel_rfl) ?_ _
      go_wp2
      go_ret
      exact ⟨rfl, kt HK4.out hHeld⟩
end
end
end Go.Proofs.YtfeinppedejlpaaGreat
