/-
 slots: attribute, and the questions that are asked of a node.; slots: questions as func values; a row is picked over; the first of a tree.
-/
import Derived.Test.YtfeinppedejlpaaGreatKW29
import Derived.Test.YtfeinppedejlpaaGreatKOa
import Derived.Test.YtfeinppedejlpaaGreatKB15
import Derived.Test.YtfeinppedejlpaaGreatKB12
import Derived.Test.YtfeinppedejlpaaGreatKB06
import Derived.Laws.EntriesVeiled
namespace Go.Proofs.YtfeinppedejlpaaGreat
set_option linter.unusedVariables false
set_option maxRecDepth 100000
set_option maxHeartbeats 8000000
section
open Go.RowKit
theorem enter155 (args : Array Value) (X : World) : (callFunc 155 args).run Tryz.prog X = .ok (.enter 155 args) X := zan Tryz.func155 (by kernel_rfl) (c := _) rfl args X
theorem zp7 (a v s : ByteArray) (b : Nat) (w : World) (hb : w.cell? ⟨b, 0, none⟩ = some (.string s)) :
  Calls Tryz.prog 155 #[.agg #[.string a, .string v], .pointer (some ⟨b, 0, none⟩)] w fun e w' => e = .returned (.bool (a.toList == s.toList)) /\ Kept (fun k => k < w.heap.size) w w' := by
 obtain ⟨W, hW⟩ : ∃ W, w.alloc (.cells #[.string a, .string v] 108) = W := ⟨_, rfl⟩
 have kW : Kept (fun k => k < w.heap.size) w W := by rw [<- hW]; exact (Kept.refl _ w).alloc (fun _ h => h) _
 have hbl : b < w.heap.size := World.block_lt_of_cell? w _ hb
 have hbW : W.cell? ⟨b, 0, none⟩ = some (.string s) := (kW.cell (p := ⟨b, 0, none⟩) hbl).trans hb
 have h0 : W.cell? ⟨w.heap.size, 0, none⟩ = some (.string a) := by rw [<- hW, zaa (heap_alloc_new w _)]; rfl
 obtain ⟨q, hq⟩ : ∃ q, (a.toList == s.toList) = q := ⟨_, rfl⟩
 rw [hq]
 have HW : Hid (w.alloc (.cells #[.string a, .string v] 108) = W) := hW
 have HK : Hid (Kept (fun k => k < w.heap.size) w W) := kW
 obtain ⟨N, hN⟩ : ∃ N, w.heap.size = N := ⟨_, rfl⟩
 rw [hN] at h0
 have HN : Hid (w.heap.size = N) := hN
 clear hW kW hb hbl hN
 cases q
 all_goals
  go_enter Tryz.func155, Tryz.ntmps155
  go_upto_region 1 with fail
  rw [HW.out, HN.out]
  go_wp2
  go_ret
  exact ⟨rfl, HK.out⟩
theorem zmo (l : List Atr) (n : Nat) (hln : l.length = n) (hn : n <= 1000000) (a : Option Addr) (cap b : Nat) (s : ByteArray) (w : World) (hr : Zal (fun k => k < w.heap.size) w a l) (hb : w.cell? ⟨b, 0, none⟩ = some (.string s)) :
  Calls Tryz.prog 154 #[.slice a n cap, .func (.func 155) #[] #[.pointer (some ⟨b, 0, none⟩)]] w fun e w' => ((∃ k, ∃ h : k < l.length, e = .returned (.int .i64 (k : Int)) /\ l[k].name = s.toList /\ ∀ x ∈ l.take k, x.name ≠ s.toList) \/ (e = .returned (.int .i64 (-1)) /\ ∀ x ∈ l, x.name ≠ s.toList)) /\ Kept (fun k => k < w.heap.size) w w' := by
 have he := enter155
 have hbl : b < w.heap.size := World.block_lt_of_cell? w _ hb
 have HR : Hid (Zal (fun k => k < w.heap.size) w a l) := hr
 have HL : Hid (l.length = n) := hln
 have HB : Hid (w.cell? ⟨b, 0, none⟩ = some (.string s)) := hb
 have HBL : Hid (b < w.heap.size) := hbl
 clear hr hln hb hbl
 go_enter Tryz.func154, Tryz.ntmps154
 go_upto_region 2 with fail
 go_loopg [8] n (fun gh v wr => ∃ j : Nat, gh = n - j /\ j <= n /\ v = .int .i64 (j : Int) /\ (∀ x ∈ l.take j, x.name ≠ s.toList) /\ Kept (fun k => k < w.heap.size) w wr)
 case atStart => exact ⟨0, rfl, Nat.zero_le _, rfl, fun x hx => by simp at hx, Kept.refl _ _⟩
 case round =>
  obtain ⟨j, hgj, hj, rfl, hno, hK⟩ := hrel
  by_cases hlt : j < n
  ·have hl : j < l.length := by rw [HL.out]; exact hlt
   obtain ⟨g, o, rfl, hg, c0, c1⟩ := HR.out j hl
   have d0 : wr.cell? ⟨g, o + j * 2, none⟩ = some (sv l[j].name) := (hK.cell (p := ⟨g, o + j * 2, none⟩) hg).trans c0
   have d1 : wr.cell? ⟨g, o + j * 2 + 1, none⟩ = some (sv l[j].value) := (hK.cell (p := ⟨g, o + j * 2 + 1, none⟩) hg).trans c1
   have r := zp7 ⟨l[j].name.toArray⟩ ⟨l[j].value.toArray⟩ s b wr ((hK.cell (p := ⟨b, 0, none⟩) HBL.out).trans HB.out)
   have HJ : Hid (l.take (j + 1) = l.take j ++ [l[j]]) := by rw [List.take_add_one, List.getElem?_eq_getElem hl]; rfl
   have HNO : Hid (∀ x ∈ l.take j, x.name ≠ s.toList) := hno
   have HK : Hid (Kept (fun k => k < w.heap.size) w wr) := hK
   rw [ByteArray.toList_eq] at r
   obtain ⟨q, hq⟩ : ∃ q, (l[j].name.toArray.toList == s.toList) = q := ⟨_, rfl⟩
   have hq' : (l[j].name == s.toList) = q := hq
   have HRR : Hid (Calls Tryz.prog 155 #[.agg #[.string ⟨l[j].name.toArray⟩, .string ⟨l[j].value.toArray⟩], .pointer (some ⟨b, 0, none⟩)] wr fun e w' => e = .returned (.bool q) /\ Kept (fun k => k < wr.heap.size) wr w') := by rw [<- hq]; exact r
   have HQ : Hid ((l[j].name == s.toList) = q) := hq'
   clear c0 c1 r hno hK hq hq'
   unfold sv at d0 d1
   go_wp2_with fail
   refine HRR.out.mono ?_
   rintro e w2 ⟨rfl, hk2⟩
   have HK2 : Hid (Kept (fun k => k < w.heap.size) w w2) := kt HK.out hk2
   clear HRR d0 d1 hk2 he
   cases q with
   | true =>
    go_wp2
    go_ret
    exact ⟨.inl ⟨j, hl, rfl, by simpa using HQ.out, HNO.out⟩, HK2.out⟩
   | false =>
    go_wp2
    go_roundg (n - (j + 1))
    case rel =>
     refine ⟨j + 1, rfl, by omega, by go_num, fun x hx => ?_, HK2.out⟩
     rw [HJ.out] at hx
     rcases List.mem_append.1 hx with h | h
     ·exact HNO.out x h
     ·rw [List.mem_singleton.1 h]; simpa using HQ.out
    case measure => omega
  ·have hjn : n = j := by omega
   subst hjn
   have HNO : Hid (∀ x ∈ l, x.name ≠ s.toList) := fun x hx => hno x (by rw [List.take_of_length_le (by rw [HL.out]; exact Nat.le_refl _)]; exact hx)
   have HK : Hid (Kept (fun k => k < w.heap.size) w wr) := hK
   clear hno hK he
   go_wp2
   go_ret
   exact ⟨.inr ⟨rfl, HNO.out⟩, HK.out⟩
theorem zn2 {nm : List UInt8} : ∀ {l : List Atr} {k : Nat} (h : k < l.length), l[k].name = nm -> (∀ x ∈ l.take k, x.name ≠ nm) -> atV nm l = l[k].value
 | [], k, h, _, _ => absurd h (Nat.not_lt_zero _)
 | a :: r, 0, h, e, _ => by
  have e' : a.name = nm := e
  unfold atV
  rw [if_pos e']
  rfl
 | a :: r, k + 1, h, e, hno => by
  have h1 : a.name ≠ nm := hno a (by simp)
  unfold atV
  rw [if_neg h1]
  have h' : k < r.length := by simpa using h
  exact zn2 h' (by simpa using e) (fun x hx => hno x (by simp [hx]))
theorem znl {nm : List UInt8} : ∀ {l : List Atr}, (∀ x ∈ l, x.name ≠ nm) -> atV nm l = []
 | [], _ => rfl
 | a :: r, h => by
  unfold atV
  rw [if_neg (h a (List.mem_cons_self ..))]
  exact znl fun x hx => h x (List.mem_cons_of_mem _ hx)
abbrev nV (x : Nd) (ao : Option Addr) (ac : Nat) (up : Int) (ko : Option Addr) (kn kc : Nat) : Array Value := zku x.kind ⟨x.name.toArray⟩ ⟨x.data.toArray⟩ ao x.attrs.length ac up ko kn kc x.shadow x.host x.content x.fl
theorem zf2 (x : Nd) (ao : Option Addr) (ac : Nat) (up : Int) (ko : Option Addr) (kn kc : Nat) (X : World) :
  Calls Tryz.prog 71 #[.agg (nV x ao ac up ko kn kc)] X fun e w' => e = .returned (.bool (za0 x)) /\ Kept (fun k => k < X.heap.size) X w' := by
 obtain ⟨V, N, hV, hN, hb, hk, -⟩ := zar X (nV x ao ac up ko kn kc)   58
 have c0 : V.cell? ⟨N, 0, none⟩ = some (.int .u8 (x.kind : Int)) := by rw [zaa hb]; rfl
 have HK : Hid (Kept (fun k => k < X.heap.size) X V) := hk
 have HV : Hid (X.alloc (.cells (nV x ao ac up ko kn kc) 58) = V) := hV
 have HN : Hid (X.heap.size = N) := hN
 obtain ⟨q, hq⟩ : ∃ q, za0 x = q := ⟨_, rfl⟩
 have HQ : Hid (za0 x = q) := hq
 rw [hq]
 obtain ⟨kd, hkd⟩ : ∃ k, x.kind = k := ⟨_, rfl⟩
 have HKD : Hid (x.kind = kd) := hkd
 rw [hkd] at c0
 clear hV hN hb hk hkd hq
 go_enter Tryz.func71, Tryz.ntmps71
 go_upto_region 1 with fail
 rw [HV.out, HN.out]
 clear HV HN
 by_cases c1 : kd = 1
 ·subst c1
  go_wp2
  go_ret
  exact ⟨by rw [<- HQ.out]; unfold za0; rw [HKD.out]; rfl, HK.out⟩
 ·have e1 : ((kd : Int) == 1) = false := by simp; omega
  by_cases c2 : kd = 2
  ·subst c2
   go_wp2
   go_ret
   exact ⟨by rw [<- HQ.out]; unfold za0; rw [HKD.out]; rfl, HK.out⟩
  ·have e2 : ((kd : Int) == 2) = false := by simp; omega
   have HE : Hid (za0 x = false) := by unfold za0; rw [HKD.out, decide_eq_false c1, decide_eq_false c2]; exact rfl
   clear c1 c2
   go_wp2
   go_ret
   exact ⟨by rw [<- HQ.out, HE.out]; rfl, HK.out⟩
theorem ze6 (x : Nd) (ao : Option Addr) (ac : Nat) (up : Int) (ko : Option Addr) (kn kc : Nat) (X : World) :
  Calls Tryz.prog 86 #[.agg (nV x ao ac up ko kn kc)] X fun e w' => e = .returned (.bool (za9 x)) /\ Kept (fun k => k < X.heap.size) X w' := by
 obtain ⟨V, N, hV, hN, hb, hk, -⟩ := zar X (nV x ao ac up ko kn kc)   58
 have c0 : V.cell? ⟨N, 0, none⟩ = some (.int .u8 (x.kind : Int)) := by rw [zaa hb]; rfl
 have c1 : V.cell? ⟨N, 1, none⟩ = some (.string ⟨x.name.toArray⟩) := by rw [zaa hb]; rfl
 have HK : Hid (Kept (fun k => k < X.heap.size) X V) := hk
 have HV : Hid (X.alloc (.cells (nV x ao ac up ko kn kc) 58) = V) := hV
 have HN : Hid (X.heap.size = N) := hN
 obtain ⟨q, hq⟩ : ∃ q, za9 x = q := ⟨_, rfl⟩
 have HQ : Hid (za9 x = q) := hq
 rw [hq]
 obtain ⟨kd, hkd⟩ : ∃ k, x.kind = k := ⟨_, rfl⟩
 have HKD : Hid (x.kind = kd) := hkd
 obtain ⟨s, hs⟩ : ∃ s, (⟨x.name.toArray⟩ : ByteArray) = s := ⟨_, rfl⟩
 have hsl : x.name = s.toList := by rw [<- hs, ByteArray.toList_eq]
 obtain ⟨b, hb2⟩ : ∃ b, decide (x.name = zbh) = b := ⟨_, rfl⟩
 have HB2 : Hid (decide (x.name = zbh) = b) := hb2
 have hbe : (s.toList == [115, 108, 111, 116]) = b := by
  rw [<- hb2, <- hsl]
  by_cases c : x.name = zbh
  ·rw [decide_eq_true c, c]; rfl
  ·rw [decide_eq_false c]; simpa using c
 rw [hkd] at c0
 rw [hs] at c1
 clear hV hN hb hk hkd hs hsl hb2 hq
 go_enter Tryz.func86, Tryz.ntmps86
 go_upto_region 1 with fail
 rw [HV.out, HN.out]
 clear HV HN
 by_cases k1 : kd = 1
 ·subst k1
  have HE : Hid (za9 x = b) := by unfold za9; rw [HKD.out, HB2.out, decide_eq_true rfl, Bool.true_and]; exact rfl
  cases b with
  | true =>
   go_wp2
   go_ret
   exact ⟨by rw [<- HQ.out, HE.out]; first | rfl | simp_all, HK.out⟩
  | false =>
   go_wp2
   go_ret
   exact ⟨by rw [<- HQ.out, HE.out]; first | rfl | simp_all, HK.out⟩
 ·have e1 : ((kd : Int) == 1) = false := by simp; omega
  have HE : Hid (za9 x = false) := by unfold za9; rw [HKD.out, decide_eq_false k1, Bool.false_and]; exact rfl
  clear k1 hbe
  go_wp2
  go_ret
  exact ⟨by rw [<- HQ.out, HE.out]; rfl, HK.out⟩
theorem zf9 (x : Nd) (ao : Option Addr) (ac : Nat) (up : Int) (ko : Option Addr) (kn kc : Nat) (s : ByteArray) (X : World) (hl : x.attrs.length <= 1000) (ha : Zal (fun k => k < X.heap.size) X ao x.attrs) :
  Calls Tryz.prog 75 #[.agg (nV x ao ac up ko kn kc), .string s] X fun e w' => e = .returned (sv (atV s.toList x.attrs)) /\ Kept (fun k => k < X.heap.size) X w' := by
 obtain ⟨V, N, hV, hN, hb, hk, hsV⟩ := zar X (nV x ao ac up ko kn kc)   58
 obtain ⟨V2, N2, hV2, hN2, hb2, hk2, -⟩ := zar V #[.string s]   9
 have hNV : N < V.heap.size := zai hb
 have c3 : V2.cell? ⟨N, 3, none⟩ = some (.slice ao x.attrs.length ac) := (hk2.cell (p := ⟨N, 3, none⟩) hNV).trans (by rw [zaa hb]; rfl)
 have d0 : V2.cell? ⟨N2, 0, none⟩ = some (.string s) := by rw [zaa hb2]; rfl
 have hkk : Kept (fun k => k < X.heap.size) X V2 := kt hk hk2
 have haV : Zal (fun k => k < V2.heap.size) V2 ao x.attrs := ha.kept hkk fun k h => ltl h hkk.size
 obtain ⟨n, hn⟩ : ∃ n, x.attrs.length = n := ⟨_, rfl⟩
 rw [hn] at c3
 have r := zmo x.attrs n hn (by omega) ao ac N2 s V2 haV d0
 have HK : Hid (Kept (fun k => k < X.heap.size) X V2) := hkk
 have HV : Hid (X.alloc (.cells (nV x ao ac up ko kn kc) 58) = V) := hV
 have HN : Hid (X.heap.size = N) := hN
 have HV2 : Hid (V.alloc (.cells #[.string s] 9) = V2) := hV2
 have HN2 : Hid (N + 1 = N2) := by rw [<- hN2, hsV, hN]; exact rfl
 have HA : Hid (Zal (fun k => k < V2.heap.size) V2 ao x.attrs) := haV
 have HL : Hid (N < V2.heap.size) := ltl hNV hk2.size
 have HNN : Hid (x.attrs.length = n) := hn
 clear hV hN hb hk hV2 hN2 hb2 hk2 hkk haV ha hn hNV hsV
 go_enter Tryz.func75, Tryz.ntmps75
 go_upto_region 1 with fail
 rw [HV.out, HN.out, HV2.out, HN2.out]
 clear HV HN HV2 HN2
 go_wp2_with fail
 refine r.mono ?_
 rintro e w2 ⟨hor, hk2⟩
 have HK2 : Hid (Kept (fun k => k < X.heap.size) X w2) := kt HK.out hk2
 rcases hor with ⟨k, hkl, rfl, hnm, hno⟩ | ⟨rfl, hno⟩
 ·have c3' : w2.cell? ⟨N, 3, none⟩ = some (.slice ao n ac) := (hk2.cell (p := ⟨N, 3, none⟩) HL.out).trans c3
  obtain ⟨g, o, rfl, hg, -, a1⟩ := HA.out k hkl
  have a1' : w2.cell? ⟨g, o + k * 2 + 1, none⟩ = some (sv x.attrs[k].value) := (hk2.cell (p := ⟨g, o + k * 2 + 1, none⟩) hg).trans a1
  have HE : Hid (atV s.toList x.attrs = x.attrs[k].value) := zn2 hkl hnm hno
  obtain ⟨u, hu⟩ : ∃ u, x.attrs[k].value = u := ⟨_, rfl⟩
  rw [hu] at a1'
  have HE2 : Hid (atV s.toList x.attrs = u) := HE.out.trans hu
  have hkn : k < n := by rw [<- HNN.out]; exact hkl
  have e0 : decide ((k : Int) < 0) = false := decide_eq_false (by omega)
  clear r hk2 c3 d0 a1 hno hnm hu HE
  go_wp2
  go_ret
  exact ⟨by rw [HE2.out]; rfl, HK2.out⟩
 ·have HE2 : Hid (atV s.toList x.attrs = []) := znl hno
  clear r hk2 c3 d0 hno
  go_wp2
  go_ret
  exact ⟨by rw [HE2.out]; rfl, HK2.out⟩
end
section
open Go.RowKit
def Zit (w : World) (v : Value) (P : Nd -> Int -> Bool) : Prop :=
 ∃ f caps, v = .func (.func f) #[] caps /\ (∀ args X, (callFunc f args).run Tryz.prog X = .ok (.enter f args) X) /\
  ∀ (x : Nd) ao ac up ko kn kc X, Kept (fun k => k < w.heap.size) w X -> x.attrs.length <= 1000 -> Zal (fun k => k < X.heap.size) X ao x.attrs ->
   Calls Tryz.prog f (#[.agg (nV x ao ac up ko kn kc)] ++ caps) X fun e Y => e = .returned (.bool (P x up)) /\ Kept (fun k => k < X.heap.size) X Y
theorem Zit.kept {w w' : World} {v : Value} {P : Nd -> Int -> Bool} (h : Zit w v P) (hk : Kept (fun k => k < w.heap.size) w w') : Zit w' v P := by
 obtain ⟨f, caps, e, he, hc⟩ := h
 exact ⟨f, caps, e, he, fun x ao ac up ko kn kc X hX => hc x ao ac up ko kn kc X (kt hk hX)⟩
theorem enter71 (args : Array Value) (X : World) : (callFunc 71 args).run Tryz.prog X = .ok (.enter 71 args) X := zan Tryz.func71 (by kernel_rfl) (c := _) rfl args X
theorem enter86 (args : Array Value) (X : World) : (callFunc 86 args).run Tryz.prog X = .ok (.enter 86 args) X := zan Tryz.func86 (by kernel_rfl) (c := _) rfl args X
theorem enter153 (args : Array Value) (X : World) : (callFunc 153 args).run Tryz.prog X = .ok (.enter 153 args) X := zan Tryz.func153 (by kernel_rfl) (c := _) rfl args X
theorem enter165 (args : Array Value) (X : World) : (callFunc 165 args).run Tryz.prog X = .ok (.enter 165 args) X := zan Tryz.func165 (by kernel_rfl) (c := _) rfl args X
theorem enter227 (args : Array Value) (X : World) : (callFunc 227 args).run Tryz.prog X = .ok (.enter 227 args) X := zan Tryz.func227 (by kernel_rfl) (c := _) rfl args X
theorem enter228 (args : Array Value) (X : World) : (callFunc 228 args).run Tryz.prog X = .ok (.enter 228 args) X := zan Tryz.func228 (by kernel_rfl) (c := _) rfl args X
theorem zqn (w : World) : Zit w (.func (.func 71) #[] #[]) fun x _ => za0 x := ⟨71, #[], rfl, enter71, fun x ao ac up ko kn kc X _ _ _ => zf2 x ao ac up ko kn kc X⟩
theorem zqk (w : World) : Zit w (.func (.func 86) #[] #[]) fun x _ => za9 x := ⟨86, #[], rfl, enter86, fun x ao ac up ko kn kc X _ _ _ => ze6 x ao ac up ko kn kc X⟩
theorem zp1 (z : Int) (w : World) :
  Calls Tryz.prog 157 #[.int .i64 z] w fun e w' => e = .returned (.func (.func 227) #[] #[.pointer (some ⟨w.heap.size, 0, none⟩)]) /\ w' = w.alloc (.cells #[.int .i64 z] 3) := by
 go_enter Tryz.func157, Tryz.ntmps157
 go_wp2
 go_ret
 exact ⟨rfl, rfl⟩
theorem zev (s : ByteArray) (w : World) :
  Calls Tryz.prog 74 #[.string s] w fun e w' => e = .returned (.func (.func 153) #[] #[.pointer (some ⟨w.heap.size, 0, none⟩)]) /\ w' = w.alloc (.cells #[.string s] 9) := by
 go_enter Tryz.func74, Tryz.ntmps74
 go_wp2
 go_ret
 exact ⟨rfl, rfl⟩
theorem zk0 (s : ByteArray) (w : World) :
  Calls Tryz.prog 158 #[.string s] w fun e w' => e = .returned (.func (.func 228) #[] #[.pointer (some ⟨w.heap.size, 0, none⟩)]) /\ w' = w.alloc (.cells #[.string s] 9) := by
 go_enter Tryz.func158, Tryz.ntmps158
 go_wp2
 go_ret
 exact ⟨rfl, rfl⟩
theorem zpx (x : Nd) (ao : Option Addr) (ac : Nat) (up : Int) (ko : Option Addr) (kn kc : Nat) (z : Int) (b : Nat) (X : World) (hb0 : X.cell? ⟨b, 0, none⟩ = some (.int .i64 z)) :
  Calls Tryz.prog 227 #[.agg (nV x ao ac up ko kn kc), .pointer (some ⟨b, 0, none⟩)] X fun e w' => e = .returned (.bool (decide (up = z))) /\ Kept (fun k => k < X.heap.size) X w' := by
 obtain ⟨V, N, hV, hN, hb, hk, -⟩ := zar X (nV x ao ac up ko kn kc)   58
 have c4 : V.cell? ⟨N, 4, none⟩ = some (.int .i64 up) := by rw [zaa hb]; rfl
 have hbl : b < X.heap.size := World.block_lt_of_cell? X _ hb0
 have b0 : V.cell? ⟨b, 0, none⟩ = some (.int .i64 z) := (hk.cell (p := ⟨b, 0, none⟩) hbl).trans hb0
 have HK : Hid (Kept (fun k => k < X.heap.size) X V) := hk
 have HV : Hid (X.alloc (.cells (nV x ao ac up ko kn kc) 58) = V) := hV
 have HN : Hid (X.heap.size = N) := hN
 obtain ⟨q, hq⟩ : ∃ q, (up == z) = q := ⟨_, rfl⟩
 have hq' : decide (up = z) = q := by rw [<- hq]; by_cases c : up = z <;> simp [c]
 rw [hq']
 clear hV hN hb hk hb0 hbl hq'
 go_enter Tryz.func227, Tryz.ntmps227
 go_upto_region 1 with fail
 rw [HV.out, HN.out]
 clear HV HN
 cases q
 all_goals
  go_wp2
  go_ret
  exact ⟨rfl, HK.out⟩
theorem zez (cs : Array Value) (h : cs.size = 14) : (Tryz.prog.info? 58).map (·.size) = some cs.size := by rw [h]; exact zg0
theorem zb4 {o : Oper} {a : Act} {X : World} {x : Operand} {N : Nat} {cs : Array Value} (ho : o.op = .load 58 x) (hx : a.eval x = .pointer (some ⟨N, 0, none⟩)) (hb : X.heap[N]? = some (.cells cs 58 (0, 0))) (hc : cs.size = 14) : (execOp a.eval o).run Tryz.prog X = .ok (.value (.agg cs)) X := by
 unfold execOp
 simp only [ho, hx, Instr.loadAt, Instr.sureAddr, Sem.run_bind, Sem.run_pure, Result.andThen_ok, run_loadVar_row X N 58 58 cs (0, 0) _ hb Tryz.underlying58 rfl (zez cs hc)]
theorem enter75 (args : Array Value) (X : World) : (callFunc 75 args).run Tryz.prog X = .ok (.enter 75 args) X := zan Tryz.func75 (by kernel_rfl) (c := _) rfl args X
theorem zg6 (x : Nd) (ao : Option Addr) (ac : Nat) (up : Int) (ko : Option Addr) (kn kc : Nat) (s : ByteArray) (b : Nat) (X : World) (hl : x.attrs.length <= 1000) (ha : Zal (fun k => k < X.heap.size) X ao x.attrs) (hb0 : X.cell? ⟨b, 0, none⟩ = some (.string s)) :
  Calls Tryz.prog 153 #[.agg (nV x ao ac up ko kn kc), .pointer (some ⟨b, 0, none⟩)] X fun e w' => e = .returned (.bool (zma s.toList x)) /\ Kept (fun k => k < X.heap.size) X w' := by
 obtain ⟨V, N, hV, hN, hb, hk, -⟩ := zar X (nV x ao ac up ko kn kc)   58
 have hbl : b < X.heap.size := World.block_lt_of_cell? X _ hb0
 have b0 : V.cell? ⟨b, 0, none⟩ = some (.string s) := (hk.cell (p := ⟨b, 0, none⟩) hbl).trans hb0
 have haV : Zal (fun k => k < V.heap.size) V ao x.attrs := ha.kept hk fun k h => ltl h hk.size
 have R1 : Hid (∀ Y, Calls Tryz.prog 86 #[.agg (nV x ao ac up ko kn kc)] Y fun e w' => e = .returned (.bool (za9 x)) /\ Kept (fun k => k < Y.heap.size) Y w') := fun Y => ze6 x ao ac up ko kn kc Y
 have R2 : Hid (∀ Y, Kept (fun k => k < V.heap.size) V Y -> Calls Tryz.prog 75 #[.agg (nV x ao ac up ko kn kc), .string ⟨#[110, 97, 109, 101]⟩] Y fun e w' => e = .returned (sv (atV zbp x.attrs)) /\ Kept (fun k => k < Y.heap.size) Y w') := fun Y hY => by
  have := zf9 x ao ac up ko kn kc ⟨#[110, 97, 109, 101]⟩ Y hl (haV.kept hY fun k h => ltl h hY.size)
  rw [ByteArray.toList_eq] at this
  exact this
 obtain ⟨cs, hcs⟩ : ∃ cs, nV x ao ac up ko kn kc = cs := ⟨_, rfl⟩
 have hcz : cs.size = 14 := by rw [<- hcs]; rfl
 rw [hcs] at R1 R2 hb hV ⊢
 have HK : Hid (Kept (fun k => k < X.heap.size) X V) := hk
 have HV : Hid (X.alloc (.cells cs 58) = V) := hV
 have HN : Hid (X.heap.size = N) := hN
 have HBK : Hid (∀ Y, Kept (fun k => k < V.heap.size) V Y -> Y.heap[N]? = some (.cells cs 58 (0, 0))) := fun Y hY => by rw [hY.block N (zai hb)]; exact hb
 have HB0 : Hid (∀ Y, Kept (fun k => k < V.heap.size) V Y -> Y.cell? ⟨b, 0, none⟩ = some (.string s)) := fun Y hY => (hY.cell (p := ⟨b, 0, none⟩) (ltl hbl hk.size)).trans b0
 obtain ⟨q, hq⟩ : ∃ q, zma s.toList x = q := ⟨_, rfl⟩
 have HQ : Hid (zma s.toList x = q) := hq
 rw [hq]
 obtain ⟨t, ht⟩ : ∃ t, za9 x = t := ⟨_, rfl⟩
 have HT : Hid (za9 x = t) := ht
 rw [ht] at R1
 obtain ⟨u, hu⟩ : ∃ u, (⟨(atV zbp x.attrs).toArray⟩ : ByteArray) = u := ⟨_, rfl⟩
 have HU : Hid (atV zbp x.attrs = u.toList) := by rw [<- hu, ByteArray.toList_eq]; exact rfl
 unfold sv at R2
 rw [hu] at R2
 clear hV hN hb hk hb0 hbl hq ht hu haV ha hcs b0
 go_enter Tryz.func153, Tryz.ntmps153
 go_upto_region 1 with fail
 rw [HV.out, HN.out]
 clear HV HN
 cases t with
 | false =>
  refine wp_region_held_drew (S := fun Y => Kept (fun k => k < V.heap.size) V Y) (by kernel_rfl) ((Kept.refl _ V).drew) (fun hHeld => ?_)
  refine tkH 0 4 (.agg cs) rfl rfl (by kernel_rfl) (by rfl) (by intro Y hY; exact zb4 rfl rfl (HBK.out Y hY) hcz) (fun _ _ _ h => h) hHeld ?_
  try simp only [Act.put, sA, s0, s1]
  refine clH 1 5 86 #[.agg cs] rfl rfl (by kernel_rfl) (by rfl) rfl (by first | rfl | (simp [Act.eval]; done) | (simp [Act.eval, Act.put]; done)) (enter86 _ _) (R1.out _) ?_
  rintro e Y ⟨rfl, hk9⟩
  refine ⟨_, rfl, kt hHeld hk9, fun hHeld2 => ?_⟩
  replace hHeld := hHeld2
  clear hHeld2
  try simp only [Act.put, sA, s0, s1]
  refine tkH 2 6 (.bool false) rfl rfl (by kernel_rfl) (by rfl) (by intro Y hY; go_simp; try with_reducible rfl) (fun _ _ _ h => h) hHeld ?_
  try simp only [Act.put, sA, s0, s1]
  refine tkU 3 7 rfl rfl (by kernel_rfl) (by rfl) (fun _ _ _ h => h) hHeld ?_
  try simp only [Act.put, sA, s0, s1]
  refine tkU 4 8 rfl rfl (by kernel_rfl) (by rfl) (fun _ _ _ h => h) hHeld ?_
  try simp only [Act.put, sA, s0, s1]
  refine tkU 5 9 rfl rfl (by kernel_rfl) (by rfl) (fun _ _ _ h => h) hHeld ?_
  try simp only [Act.put, sA, s0, s1]
  refine tkU 6 10 rfl rfl (by kernel_rfl) (by rfl) (fun _ _ _ h => h) hHeld ?_
  try simp only [Act.put, sA, s0, s1]
  refine tkH 7 11 (.bool false) rfl rfl (by kernel_rfl) (by rfl) (by intro Y hY; go_simp; try with_reducible rfl) (fun _ _ _ h => h) hHeld ?_
  try simp only [Act.put, sA, s0, s1]
  refine tkH 8 3 (.bool false) rfl rfl (by kernel_rfl) (by rfl) (by intro Y hY; go_simp; try with_reducible rfl) (fun _ _ _ h => h) hHeld ?_
  try simp only [Act.put, sA, s0, s1]
  refine wpAnyH_done (by kernel_rfl) ?_ _
  go_wp2
  go_ret
  exact ⟨by rw [<- HQ.out]; unfold zma; rw [HT.out, Bool.false_and]; rfl, kt HK.out hHeld⟩
 | true =>
  obtain ⟨d, hd⟩ : ∃ d, (u.toList == s.toList) = d := ⟨_, rfl⟩
  have HE : Hid (q = d) := by
   rw [<- HQ.out, <- hd]
   unfold zma
   rw [HT.out, Bool.true_and, HU.out]
   by_cases c : u.toList = s.toList
   ·rw [decide_eq_true c, c]; exact (beq_self_eq_true _).symm
   ·rw [decide_eq_false c]; exact (beq_eq_false_iff_ne.2 c).symm
  refine wp_region_held_drew (S := fun Y => Kept (fun k => k < V.heap.size) V Y) (by kernel_rfl) ((Kept.refl _ V).drew) (fun hHeld => ?_)
  refine tkH 0 4 (.agg cs) rfl rfl (by kernel_rfl) (by rfl) (by intro Y hY; exact zb4 rfl rfl (HBK.out Y hY) hcz) (fun _ _ _ h => h) hHeld ?_
  try simp only [Act.put, sA, s0, s1]
  refine clH 1 5 86 #[.agg cs] rfl rfl (by kernel_rfl) (by rfl) rfl (by first | rfl | (simp [Act.eval]; done) | (simp [Act.eval, Act.put]; done)) (enter86 _ _) (R1.out _) ?_
  rintro e Y ⟨rfl, hk9⟩
  refine ⟨_, rfl, kt hHeld hk9, fun hHeld2 => ?_⟩
  replace hHeld := hHeld2
  clear hHeld2
  try simp only [Act.put, sA, s0, s1]
  refine tkH 2 6 (.bool true) rfl rfl (by kernel_rfl) (by rfl) (by intro Y hY; go_simp; try with_reducible rfl) (fun _ _ _ h => h) hHeld ?_
  try simp only [Act.put, sA, s0, s1]
  refine tkH 3 7 (.agg cs) rfl rfl (by kernel_rfl) (by rfl) (by intro Y hY; exact zb4 rfl rfl (HBK.out Y hY) hcz) (fun _ _ _ h => h) hHeld ?_
  try simp only [Act.put, sA, s0, s1]
  refine tkH 5 9 (.string s) rfl rfl (by kernel_rfl) (by rfl) (by intro Y hY; have hc := HB0.out Y hY; go_simp; try with_reducible rfl) (fun _ _ _ h => h) hHeld ?_
  try simp only [Act.put, sA, s0, s1]
  refine clH 4 8 75 #[.agg cs, .string ⟨#[110, 97, 109, 101]⟩] rfl rfl (by kernel_rfl) (by rfl) rfl (by first | rfl | (simp [Act.eval]; done) | (simp [Act.eval, Act.put]; done)) (enter75 _ _) (R2.out _ hHeld) ?_
  rintro e Y ⟨rfl, hk9⟩
  refine ⟨_, rfl, kt hHeld hk9, fun hHeld2 => ?_⟩
  replace hHeld := hHeld2
  clear hHeld2
  try simp only [Act.put, sA, s0, s1]
  cases d with
  | false =>
   refine tkH 6 10 (.bool false) rfl rfl (by kernel_rfl) (by rfl) (by intro Y hY; go_simp; try with_reducible rfl) (fun _ _ _ h => h) hHeld ?_
   try simp only [Act.put, sA, s0, s1]
   refine tkH 7 11 (.bool false) rfl rfl (by kernel_rfl) (by rfl) (by intro Y hY; go_simp; try with_reducible rfl) (fun _ _ _ h => h) hHeld ?_
   try simp only [Act.put, sA, s0, s1]
   refine tkH 8 3 (.bool false) rfl rfl (by kernel_rfl) (by rfl) (by intro Y hY; go_simp; try with_reducible rfl) (fun _ _ _ h => h) hHeld ?_
   try simp only [Act.put, sA, s0, s1]
   refine wpAnyH_done (by kernel_rfl) ?_ _
   go_wp2
   go_ret
   exact ⟨by rw [HE.out]; rfl, kt HK.out hHeld⟩
  | true =>
   refine tkH 6 10 (.bool true) rfl rfl (by kernel_rfl) (by rfl) (by intro Y hY; go_simp; try with_reducible rfl) (fun _ _ _ h => h) hHeld ?_
   try simp only [Act.put, sA, s0, s1]
   refine tkH 7 11 (.bool true) rfl rfl (by kernel_rfl) (by rfl) (by intro Y hY; go_simp; try with_reducible rfl) (fun _ _ _ h => h) hHeld ?_
   try simp only [Act.put, sA, s0, s1]
   refine tkH 8 3 (.bool true) rfl rfl (by kernel_rfl) (by rfl) (by intro Y hY; go_simp; try with_reducible rfl) (fun _ _ _ h => h) hHeld ?_
   try simp only [Act.put, sA, s0, s1]
   refine wpAnyH_done (by kernel_rfl) ?_ _
   go_wp2
   go_ret
   exact ⟨by rw [HE.out]; rfl, kt HK.out hHeld⟩
theorem zjr (x : Nd) (ao : Option Addr) (ac : Nat) (up : Int) (ko : Option Addr) (kn kc : Nat) (s : ByteArray) (b : Nat) (X : World) (hl : x.attrs.length <= 1000) (ha : Zal (fun k => k < X.heap.size) X ao x.attrs) (hb0 : X.cell? ⟨b, 0, none⟩ = some (.string s)) :
  Calls Tryz.prog 228 #[.agg (nV x ao ac up ko kn kc), .pointer (some ⟨b, 0, none⟩)] X fun e w' => e = .returned (.bool (zca s.toList x)) /\ Kept (fun k => k < X.heap.size) X w' := by
 obtain ⟨V, N, hV, hN, hb, hk, -⟩ := zar X (nV x ao ac up ko kn kc)   58
 have hbl : b < X.heap.size := World.block_lt_of_cell? X _ hb0
 have b0 : V.cell? ⟨b, 0, none⟩ = some (.string s) := (hk.cell (p := ⟨b, 0, none⟩) hbl).trans hb0
 have haV : Zal (fun k => k < V.heap.size) V ao x.attrs := ha.kept hk fun k h => ltl h hk.size
 have R1 : Hid (∀ Y, Calls Tryz.prog 71 #[.agg (nV x ao ac up ko kn kc)] Y fun e w' => e = .returned (.bool (za0 x)) /\ Kept (fun k => k < Y.heap.size) Y w') := fun Y => zf2 x ao ac up ko kn kc Y
 have R2 : Hid (∀ Y, Kept (fun k => k < V.heap.size) V Y -> Calls Tryz.prog 75 #[.agg (nV x ao ac up ko kn kc), .string ⟨#[115, 108, 111, 116]⟩] Y fun e w' => e = .returned (sv (atV zbh x.attrs)) /\ Kept (fun k => k < Y.heap.size) Y w') := fun Y hY => by
  have := zf9 x ao ac up ko kn kc ⟨#[115, 108, 111, 116]⟩ Y hl (haV.kept hY fun k h => ltl h hY.size)
  rw [ByteArray.toList_eq] at this
  exact this
 obtain ⟨cs, hcs⟩ : ∃ cs, nV x ao ac up ko kn kc = cs := ⟨_, rfl⟩
 have hcz : cs.size = 14 := by rw [<- hcs]; rfl
 rw [hcs] at R1 R2 hb hV ⊢
 have HK : Hid (Kept (fun k => k < X.heap.size) X V) := hk
 have HV : Hid (X.alloc (.cells cs 58) = V) := hV
 have HN : Hid (X.heap.size = N) := hN
 have HBK : Hid (∀ Y, Kept (fun k => k < V.heap.size) V Y -> Y.heap[N]? = some (.cells cs 58 (0, 0))) := fun Y hY => by rw [hY.block N (zai hb)]; exact hb
 have HB0 : Hid (∀ Y, Kept (fun k => k < V.heap.size) V Y -> Y.cell? ⟨b, 0, none⟩ = some (.string s)) := fun Y hY => (hY.cell (p := ⟨b, 0, none⟩) (ltl hbl hk.size)).trans b0
 obtain ⟨q, hq⟩ : ∃ q, zca s.toList x = q := ⟨_, rfl⟩
 have HQ : Hid (zca s.toList x = q) := hq
 rw [hq]
 obtain ⟨t, ht⟩ : ∃ t, za0 x = t := ⟨_, rfl⟩
 have HT : Hid (za0 x = t) := ht
 rw [ht] at R1
 obtain ⟨u, hu⟩ : ∃ u, (⟨(atV zbh x.attrs).toArray⟩ : ByteArray) = u := ⟨_, rfl⟩
 have HU : Hid (atV zbh x.attrs = u.toList) := by rw [<- hu, ByteArray.toList_eq]; exact rfl
 unfold sv at R2
 rw [hu] at R2
 clear hV hN hb hk hb0 hbl hq ht hu haV ha hcs b0
 go_enter Tryz.func228, Tryz.ntmps228
 go_upto_region 1 with fail
 rw [HV.out, HN.out]
 clear HV HN
 cases t with
 | false =>
  refine wp_region_held_drew (S := fun Y => Kept (fun k => k < V.heap.size) V Y) (by kernel_rfl) ((Kept.refl _ V).drew) (fun hHeld => ?_)
  refine tkH 0 4 (.agg cs) rfl rfl (by kernel_rfl) (by rfl) (by intro Y hY; exact zb4 rfl rfl (HBK.out Y hY) hcz) (fun _ _ _ h => h) hHeld ?_
  try simp only [Act.put, sA, s0, s1]
  refine clH 1 5 71 #[.agg cs] rfl rfl (by kernel_rfl) (by rfl) rfl (by first | rfl | (simp [Act.eval]; done) | (simp [Act.eval, Act.put]; done)) (enter71 _ _) (R1.out _) ?_
  rintro e Y ⟨rfl, hk9⟩
  refine ⟨_, rfl, kt hHeld hk9, fun hHeld2 => ?_⟩
  replace hHeld := hHeld2
  clear hHeld2
  try simp only [Act.put, sA, s0, s1]
  refine tkH 2 6 (.bool false) rfl rfl (by kernel_rfl) (by rfl) (by intro Y hY; go_simp; try with_reducible rfl) (fun _ _ _ h => h) hHeld ?_
  try simp only [Act.put, sA, s0, s1]
  refine tkU 3 7 rfl rfl (by kernel_rfl) (by rfl) (fun _ _ _ h => h) hHeld ?_
  try simp only [Act.put, sA, s0, s1]
  refine tkU 4 8 rfl rfl (by kernel_rfl) (by rfl) (fun _ _ _ h => h) hHeld ?_
  try simp only [Act.put, sA, s0, s1]
  refine tkU 5 9 rfl rfl (by kernel_rfl) (by rfl) (fun _ _ _ h => h) hHeld ?_
  try simp only [Act.put, sA, s0, s1]
  refine tkU 6 10 rfl rfl (by kernel_rfl) (by rfl) (fun _ _ _ h => h) hHeld ?_
  try simp only [Act.put, sA, s0, s1]
  refine tkH 7 11 (.bool false) rfl rfl (by kernel_rfl) (by rfl) (by intro Y hY; go_simp; try with_reducible rfl) (fun _ _ _ h => h) hHeld ?_
  try simp only [Act.put, sA, s0, s1]
  refine tkH 8 3 (.bool false) rfl rfl (by kernel_rfl) (by rfl) (by intro Y hY; go_simp; try with_reducible rfl) (fun _ _ _ h => h) hHeld ?_
  try simp only [Act.put, sA, s0, s1]
  refine wpAnyH_done (by kernel_rfl) ?_ _
  go_wp2
  go_ret
  exact ⟨by rw [<- HQ.out]; unfold zca; rw [HT.out, Bool.false_and]; rfl, kt HK.out hHeld⟩
 | true =>
  obtain ⟨d, hd⟩ : ∃ d, (u.toList == s.toList) = d := ⟨_, rfl⟩
  have HE : Hid (q = d) := by
   rw [<- HQ.out, <- hd]
   unfold zca
   rw [HT.out, Bool.true_and, HU.out]
   by_cases c : u.toList = s.toList
   ·rw [decide_eq_true c, c]; exact (beq_self_eq_true _).symm
   ·rw [decide_eq_false c]; exact (beq_eq_false_iff_ne.2 c).symm
  refine wp_region_held_drew (S := fun Y => Kept (fun k => k < V.heap.size) V Y) (by kernel_rfl) ((Kept.refl _ V).drew) (fun hHeld => ?_)
  refine tkH 0 4 (.agg cs) rfl rfl (by kernel_rfl) (by rfl) (by intro Y hY; exact zb4 rfl rfl (HBK.out Y hY) hcz) (fun _ _ _ h => h) hHeld ?_
  try simp only [Act.put, sA, s0, s1]
  refine clH 1 5 71 #[.agg cs] rfl rfl (by kernel_rfl) (by rfl) rfl (by first | rfl | (simp [Act.eval]; done) | (simp [Act.eval, Act.put]; done)) (enter71 _ _) (R1.out _) ?_
  rintro e Y ⟨rfl, hk9⟩
  refine ⟨_, rfl, kt hHeld hk9, fun hHeld2 => ?_⟩
  replace hHeld := hHeld2
  clear hHeld2
  try simp only [Act.put, sA, s0, s1]
  refine tkH 2 6 (.bool true) rfl rfl (by kernel_rfl) (by rfl) (by intro Y hY; go_simp; try with_reducible rfl) (fun _ _ _ h => h) hHeld ?_
  try simp only [Act.put, sA, s0, s1]
  refine tkH 3 7 (.agg cs) rfl rfl (by kernel_rfl) (by rfl) (by intro Y hY; exact zb4 rfl rfl (HBK.out Y hY) hcz) (fun _ _ _ h => h) hHeld ?_
  try simp only [Act.put, sA, s0, s1]
  refine tkH 5 9 (.string s) rfl rfl (by kernel_rfl) (by rfl) (by intro Y hY; have hc := HB0.out Y hY; go_simp; try with_reducible rfl) (fun _ _ _ h => h) hHeld ?_
  try simp only [Act.put, sA, s0, s1]
  refine clH 4 8 75 #[.agg cs, .string ⟨#[115, 108, 111, 116]⟩] rfl rfl (by kernel_rfl) (by rfl) rfl (by first | rfl | (simp [Act.eval]; done) | (simp [Act.eval, Act.put]; done)) (enter75 _ _) (R2.out _ hHeld) ?_
  rintro e Y ⟨rfl, hk9⟩
  refine ⟨_, rfl, kt hHeld hk9, fun hHeld2 => ?_⟩
  replace hHeld := hHeld2
  clear hHeld2
  try simp only [Act.put, sA, s0, s1]
  cases d with
  | false =>
   refine tkH 6 10 (.bool false) rfl rfl (by kernel_rfl) (by rfl) (by intro Y hY; go_simp; try with_reducible rfl) (fun _ _ _ h => h) hHeld ?_
   try simp only [Act.put, sA, s0, s1]
   refine tkH 7 11 (.bool false) rfl rfl (by kernel_rfl) (by rfl) (by intro Y hY; go_simp; try with_reducible rfl) (fun _ _ _ h => h) hHeld ?_
   try simp only [Act.put, sA, s0, s1]
   refine tkH 8 3 (.bool false) rfl rfl (by kernel_rfl) (by rfl) (by intro Y hY; go_simp; try with_reducible rfl) (fun _ _ _ h => h) hHeld ?_
   try simp only [Act.put, sA, s0, s1]
   refine wpAnyH_done (by kernel_rfl) ?_ _
   go_wp2
   go_ret
   exact ⟨by rw [HE.out]; rfl, kt HK.out hHeld⟩
  | true =>
   refine tkH 6 10 (.bool true) rfl rfl (by kernel_rfl) (by rfl) (by intro Y hY; go_simp; try with_reducible rfl) (fun _ _ _ h => h) hHeld ?_
   try simp only [Act.put, sA, s0, s1]
   refine tkH 7 11 (.bool true) rfl rfl (by kernel_rfl) (by rfl) (by intro Y hY; go_simp; try with_reducible rfl) (fun _ _ _ h => h) hHeld ?_
   try simp only [Act.put, sA, s0, s1]
   refine tkH 8 3 (.bool true) rfl rfl (by kernel_rfl) (by rfl) (by intro Y hY; go_simp; try with_reducible rfl) (fun _ _ _ h => h) hHeld ?_
   try simp only [Act.put, sA, s0, s1]
   refine wpAnyH_done (by kernel_rfl) ?_ _
   go_wp2
   go_ret
   exact ⟨by rw [HE.out]; rfl, kt HK.out hHeld⟩
theorem zjl {s : ByteArray} {b : Nat} {w : World} (hb : w.cell? ⟨b, 0, none⟩ = some (.string s)) : Zit w (.func (.func 153) #[] #[.pointer (some ⟨b, 0, none⟩)]) fun x _ => zma s.toList x :=
 ⟨153, #[.pointer (some ⟨b, 0, none⟩)], rfl, enter153, fun x ao ac up ko kn kc X hX hl ha => zg6 x ao ac up ko kn kc s b X hl ha ((hX.cell (p := ⟨b, 0, none⟩) (World.block_lt_of_cell? w _ hb)).trans hb)⟩
theorem zrg {s : ByteArray} {b : Nat} {w : World} (hb : w.cell? ⟨b, 0, none⟩ = some (.string s)) : Zit w (.func (.func 228) #[] #[.pointer (some ⟨b, 0, none⟩)]) fun x _ => zca s.toList x :=
 ⟨228, #[.pointer (some ⟨b, 0, none⟩)], rfl, enter228, fun x ao ac up ko kn kc X hX hl ha => zjr x ao ac up ko kn kc s b X hl ha ((hX.cell (p := ⟨b, 0, none⟩) (World.block_lt_of_cell? w _ hb)).trans hb)⟩
theorem zqg {z : Int} {b : Nat} {w : World} (hb : w.cell? ⟨b, 0, none⟩ = some (.int .i64 z)) : Zit w (.func (.func 227) #[] #[.pointer (some ⟨b, 0, none⟩)]) fun _ up => decide (up = z) :=
 ⟨227, #[.pointer (some ⟨b, 0, none⟩)], rfl, enter227, fun x ao ac up ko kn kc X hX hl ha => zpx x ao ac up ko kn kc z b X ((hX.cell (p := ⟨b, 0, none⟩) (World.block_lt_of_cell? w _ hb)).trans hb)⟩
def Zfx (w : World) (v : Value) (b : Nat -> Bool) (n : Nat) : Prop :=
 ∃ f caps, v = .func (.func f) #[] caps /\ (∀ args X, (callFunc f args).run Tryz.prog X = .ok (.enter f args) X) /\
  ∀ i, i < n -> ∀ X, Kept (fun k => k < w.heap.size) w X -> Calls Tryz.prog f (#[.int .i64 (i : Int)] ++ caps) X fun e Y => e = .returned (.bool (b i)) /\ Kept (fun k => k < X.heap.size) X Y
theorem Zfx.kept {w w' : World} {v : Value} {b : Nat -> Bool} {n : Nat} (h : Zfx w v b n) (hk : Kept (fun k => k < w.heap.size) w w') : Zfx w' v b n := by
 obtain ⟨f, caps, e, he, hc⟩ := h
 exact ⟨f, caps, e, he, fun i hi X hX => hc i hi X (kt hk hX)⟩
theorem zij (K : Nat -> Prop) (p i b1 b2 : Nat) (M : Dm) (R : Nat -> List Nat) (P : Nd -> Int -> Bool) (v : Value) (X : World) (h : DX K X p M) (hW : WF M.n M.pl R) (hi : i < M.n) (hn : M.n <= 1000000) (hf : Few M)
  (h1 : X.cell? ⟨b1, 0, none⟩ = some (.pointer (some ⟨p, 0, none⟩))) (h2 : X.cell? ⟨b2, 0, none⟩ = some v) (ha : Zit X v P) :
  Calls Tryz.prog 165 #[.int .i64 (i : Int), .pointer (some ⟨b1, 0, none⟩), .pointer (some ⟨b2, 0, none⟩)] X fun e w' => e = .returned (.bool (P (M.nd i) (M.pl i).up)) /\ Kept (fun k => k < X.heap.size) X w' := by
 have rn := zc3 K p i M R X h hW hi hn hf
 have hb2 := World.block_lt_of_cell? X _ h2
 have HB2 : Hid (b2 < X.heap.size) := hb2
 have HA : Hid (Zit X v P) := ha
 have HF : Hid ((M.nd i).attrs.length <= 1000) := hf i hi
 clear h hW hf hb2 ha
 go_enter Tryz.func165, Tryz.ntmps165
 go_wp2_with fail
 refine rn.mono ?_
 rintro e v1 ⟨ao, ac, ko, kc, rfl, hO, -, hK⟩
 obtain ⟨V, N, hV, hN, hb, hk, -⟩ := zar v1 (nV (M.nd i) ao ac (M.pl i).up ko (R i).length kc)   58
 have kXV : Kept (fun k => k < X.heap.size) X V := kt hK hk
 have h2' : V.cell? ⟨b2, 0, none⟩ = some v := (kXV.cell (p := ⟨b2, 0, none⟩) HB2.out).trans h2
 have haV : Zal (fun k => k < V.heap.size) V ao (M.nd i).attrs := (hO.atsAt (K' := fun k => k < v1.heap.size) fun g hg => (Zac.out hO hg).2).kept hk fun k h => ltl h hk.size
 obtain ⟨f, caps, rfl, he, hc⟩ := HA.out
 have r := hc (M.nd i) ao ac (M.pl i).up ko (R i).length kc V kXV HF.out haV
 obtain ⟨cs, hcs⟩ : ∃ cs, nV (M.nd i) ao ac (M.pl i).up ko (R i).length kc = cs := ⟨_, rfl⟩
 have hcz : cs.size = 14 := by rw [<- hcs]; rfl
 have hcI := zez cs hcz
 have HV : Hid (v1.alloc (.cells (nV (M.nd i) ao ac (M.pl i).up ko (R i).length kc) 58) = V) := hV
 have HN : Hid (v1.heap.size = N) := hN
 have HK : Hid (Kept (fun k => k < X.heap.size) X V) := kXV
 rw [hcs] at r hb
 have HR : Hid (Calls Tryz.prog f (#[.agg cs] ++ caps) V fun e Y => e = .returned (.bool (P (M.nd i) (M.pl i).up)) /\ Kept (fun k => k < V.heap.size) V Y) := r
 clear rn hO hK hV hN hk kXV hc r hcs haV h2
 go_upto_region 2 with fail
 rw [HV.out, HN.out]
 clear HV HN
 go_wp2_with (refine wpList_load_row rfl 58 _ rfl N rfl 58 cs (0, 0) _ hb Tryz.underlying58 rfl hcI ?_)
 refine HR.out.mono ?_
 rintro e w2 ⟨rfl, hk2⟩
 have HK2 : Hid (Kept (fun k => k < X.heap.size) X w2) := kt HK.out hk2
 clear HR hk2 he h1 h2' hb
 go_wp2
 go_ret
 exact ⟨rfl, HK2.out⟩
theorem zi0 (K : Nat -> Prop) (p : Nat) (M : Dm) (R : Nat -> List Nat) (P : Nd -> Int -> Bool) (v : Value) (X : World) (h : DX K X p M) (hW : WF M.n M.pl R) (hn : M.n <= 1000000) (hf : Few M) (ha : Zit X v P) :
  Calls Tryz.prog 89 #[.pointer (some ⟨p, 0, none⟩), v] X fun e w' => ∃ u, e = .returned u /\ Zfx w' u (fun i => P (M.nd i) (M.pl i).up) M.n /\ Kept (fun k => k < X.heap.size) X w' := by
 obtain ⟨V1, N1, hV1, hN1, hb1, hk1, hs1⟩ := zar X #[.pointer (some ⟨p, 0, none⟩)]   25
 obtain ⟨V2, N2, hV2, hN2, hb2, hk2, -⟩ := zar V1 #[v]   89
 have k12 : Kept (fun k => k < X.heap.size) X V2 := kt hk1 hk2
 have c1 : V2.cell? ⟨N1, 0, none⟩ = some (.pointer (some ⟨p, 0, none⟩)) := (hk2.cell (p := ⟨N1, 0, none⟩) (zai hb1)).trans (by rw [zaa hb1]; rfl)
 have c2 : V2.cell? ⟨N2, 0, none⟩ = some v := by rw [zaa hb2]; rfl
 have HT : Hid (Zfx V2 (.func (.func 165) #[] #[.pointer (some ⟨N1, 0, none⟩), .pointer (some ⟨N2, 0, none⟩)]) (fun i => P (M.nd i) (M.pl i).up) M.n /\ Kept (fun k => k < X.heap.size) X V2) := by
  refine ⟨⟨165, _, rfl, enter165, fun i hi Y hY => ?_⟩, k12⟩
  have kY : Kept (fun k => k < X.heap.size) X Y := kt k12 hY
  exact zij K p i N1 N2 M R P v Y (h.kept kY) hW hi hn hf ((hY.cell (p := ⟨N1, 0, none⟩) (World.block_lt_of_cell? V2 _ c1)).trans c1) ((hY.cell (p := ⟨N2, 0, none⟩) (World.block_lt_of_cell? V2 _ c2)).trans c2) (ha.kept kY)
 have HV1 : Hid (X.alloc (.cells #[.pointer (some ⟨p, 0, none⟩)] 25) = V1) := hV1
 have HN1 : Hid (X.heap.size = N1) := hN1
 have HV2 : Hid (V1.alloc (.cells #[v] 89) = V2) := hV2
 have HN2 : Hid (N1 + 1 = N2) := by rw [<- hN2, hs1, hN1]; exact rfl
 obtain ⟨f, caps, rfl, -⟩ := ha
 clear h hW hf hV1 hN1 hb1 hk1 hs1 hV2 hN2 hb2 hk2 k12 c1 c2
 go_enter Tryz.func89, Tryz.ntmps89
 go_upto_region 1 with fail
 rw [HV1.out, HN1.out, HV2.out, HN2.out]
 clear HV1 HN1 HV2 HN2
 go_wp2
 go_ret
 exact ⟨_, rfl, HT.out.1, HT.out.2⟩
end
end Go.Proofs.YtfeinppedejlpaaGreat
