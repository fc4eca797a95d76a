/-
 slots: attribute, and the questions that are asked of a node.; slots: questions as func values; a row is picked over; the first of a tree.
-/
import Derived.Test.YtkngpgkldkohgaaGreatB29
import Derived.Test.YtkngpgkldkohgaaGreatB15
import Derived.Test.YtkngpgkldkohgaaGreatB12
import Derived.Test.YtkngpgkldkohgaaGreatB06
import Derived.Laws.EntriesVeiled
namespace Go.Proofs.YtkngpgkldkohgaaGreat
set_option linter.unusedVariables false
set_option maxRecDepth 100000
set_option maxHeartbeats 8000000
section
open Go.RowKit
theorem enter125 (args : Array Value) (X : World) : (callFunc 125 args).run Tryz.prog X = .ok (.enter 125 args) X := entersE Tryz.func125 (by kernel_rfl) (c := _) rfl args X
theorem atr1_any (a v s : ByteArray) (b : Nat) (w : World) (hb : w.cell? ⟨b, 0, none⟩ = some (.string s)) :
  Calls Tryz.prog 125 #[.agg #[.string a, .string v], .pointer (some ⟨b, 0, none⟩)] w fun e w' => e = .returned (.bool (a.toList == s.toList)) /\ Kept (fun k => k < w.heap.size) w w' := by
 obtain ⟨W, hW⟩ : ∃ W, w.alloc (.cells #[.string a, .string v] 109) = W := ⟨_, rfl⟩
 have kW : Kept (fun k => k < w.heap.size) w W := by rw [<- hW]; exact (Kept.refl _ w).alloc (fun _ h => h) _
 have hbl : b < w.heap.size := World.block_lt_of_cell? w _ hb
 have hbW : W.cell? ⟨b, 0, none⟩ = some (.string s) := (kW.cell (p := ⟨b, 0, none⟩) hbl).trans hb
 have h0 : W.cell? ⟨w.heap.size, 0, none⟩ = some (.string a) := by rw [<- hW, cell_block (heap_alloc_new w _)]; rfl
 obtain ⟨q, hq⟩ : ∃ q, (a.toList == s.toList) = q := ⟨_, rfl⟩
 rw [hq]
 have HW : Hid (w.alloc (.cells #[.string a, .string v] 109) = W) := hW
 have HK : Hid (Kept (fun k => k < w.heap.size) w W) := kW
 obtain ⟨N, hN⟩ : ∃ N, w.heap.size = N := ⟨_, rfl⟩
 rw [hN] at h0
 have HN : Hid (w.heap.size = N) := hN
 clear hW kW hb hbl hN
 cases q
 all_goals
  go_enter Tryz.func125, Tryz.ntmps125
  go_upto_region 1 with fail
  rw [HW.out, HN.out]
  go_wp2
  go_ret
  exact ⟨rfl, HK.out⟩
theorem indexB_any (l : List Atr) (n : Nat) (hln : l.length = n) (hn : n <= 1000000) (a : Option Addr) (cap b : Nat) (s : ByteArray) (w : World) (hr : AtsAt (fun k => k < w.heap.size) w a l) (hb : w.cell? ⟨b, 0, none⟩ = some (.string s)) :
  Calls Tryz.prog 124 #[.slice a n cap, .func (.func 125) #[] #[.pointer (some ⟨b, 0, none⟩)]] w fun e w' => ((∃ k, ∃ h : k < l.length, e = .returned (.int .i64 (k : Int)) /\ l[k].name = s.toList /\ ∀ x ∈ l.take k, x.name ≠ s.toList) \/ (e = .returned (.int .i64 (-1)) /\ ∀ x ∈ l, x.name ≠ s.toList)) /\ Kept (fun k => k < w.heap.size) w w' := by
 have he := enter125
 have hbl : b < w.heap.size := World.block_lt_of_cell? w _ hb
 have HR : Hid (AtsAt (fun k => k < w.heap.size) w a l) := hr
 have HL : Hid (l.length = n) := hln
 have HB : Hid (w.cell? ⟨b, 0, none⟩ = some (.string s)) := hb
 have HBL : Hid (b < w.heap.size) := hbl
 clear hr hln hb hbl
 go_enter Tryz.func124, Tryz.ntmps124
 go_upto_region 2 with fail
 go_loopg [8] n (fun gh v wr => ∃ j : Nat, gh = n - j /\ j <= n /\ v = .int .i64 (j : Int) /\ (∀ x ∈ l.take j, x.name ≠ s.toList) /\ Kept (fun k => k < w.heap.size) w wr)
 case atStart => exact ⟨0, rfl, Nat.zero_le _, rfl, fun x hx => by simp at hx, Kept.refl _ _⟩
 case round =>
  obtain ⟨j, hgj, hj, rfl, hno, hK⟩ := hrel
  by_cases hlt : j < n
  ·have hl : j < l.length := by rw [HL.out]; exact hlt
   obtain ⟨g, o, rfl, hg, c0, c1⟩ := HR.out j hl
   have d0 : wr.cell? ⟨g, o + j * 2, none⟩ = some (sv l[j].name) := (hK.cell (p := ⟨g, o + j * 2, none⟩) hg).trans c0
   have d1 : wr.cell? ⟨g, o + j * 2 + 1, none⟩ = some (sv l[j].value) := (hK.cell (p := ⟨g, o + j * 2 + 1, none⟩) hg).trans c1
   have r := atr1_any ⟨l[j].name.toArray⟩ ⟨l[j].value.toArray⟩ s b wr ((hK.cell (p := ⟨b, 0, none⟩) HBL.out).trans HB.out)
   have HJ : Hid (l.take (j + 1) = l.take j ++ [l[j]]) := by rw [List.take_add_one, List.getElem?_eq_getElem hl]; rfl
   have HNO : Hid (∀ x ∈ l.take j, x.name ≠ s.toList) := hno
   have HK : Hid (Kept (fun k => k < w.heap.size) w wr) := hK
   rw [ByteArray.toList_eq] at r
   obtain ⟨q, hq⟩ : ∃ q, (l[j].name.toArray.toList == s.toList) = q := ⟨_, rfl⟩
   have hq' : (l[j].name == s.toList) = q := hq
   have HRR : Hid (Calls Tryz.prog 125 #[.agg #[.string ⟨l[j].name.toArray⟩, .string ⟨l[j].value.toArray⟩], .pointer (some ⟨b, 0, none⟩)] wr fun e w' => e = .returned (.bool q) /\ Kept (fun k => k < wr.heap.size) wr w') := by rw [<- hq]; exact r
   have HQ : Hid ((l[j].name == s.toList) = q) := hq'
   clear c0 c1 r hno hK hq hq'
   unfold sv at d0 d1
   go_wp2_with fail
   refine HRR.out.mono ?_
   rintro e w2 ⟨rfl, hk2⟩
   have HK2 : Hid (Kept (fun k => k < w.heap.size) w w2) := HK.out.trans (hk2.mono fun k h => Nat.lt_of_lt_of_le h HK.out.size)
   clear HRR d0 d1 hk2 he
   cases q with
   | true =>
    go_wp2
    go_ret
    exact ⟨.inl ⟨j, hl, rfl, by simpa using HQ.out, HNO.out⟩, HK2.out⟩
   | false =>
    go_wp2
    go_roundg (n - (j + 1))
    case rel =>
     refine ⟨j + 1, rfl, by omega, by go_num, fun x hx => ?_, HK2.out⟩
     rw [HJ.out] at hx
     rcases List.mem_append.1 hx with h | h
     ·exact HNO.out x h
     ·rw [List.mem_singleton.1 h]; simpa using HQ.out
    case measure => omega
  ·have hjn : n = j := by omega
   subst hjn
   have HNO : Hid (∀ x ∈ l, x.name ≠ s.toList) := fun x hx => hno x (by rw [List.take_of_length_le (by rw [HL.out]; exact Nat.le_refl _)]; exact hx)
   have HK : Hid (Kept (fun k => k < w.heap.size) w wr) := hK
   clear hno hK he
   go_wp2
   go_ret
   exact ⟨.inr ⟨rfl, HNO.out⟩, HK.out⟩
theorem atV_at {nm : List UInt8} : ∀ {l : List Atr} {k : Nat} (h : k < l.length), l[k].name = nm -> (∀ x ∈ l.take k, x.name ≠ nm) -> atV nm l = l[k].value
 | [], k, h, _, _ => absurd h (Nat.not_lt_zero _)
 | a :: r, 0, h, e, _ => by
  have e' : a.name = nm := e
  unfold atV
  rw [if_pos e']
  rfl
 | a :: r, k + 1, h, e, hno => by
  have h1 : a.name ≠ nm := hno a (by simp)
  unfold atV
  rw [if_neg h1]
  have h' : k < r.length := by simpa using h
  exact atV_at h' (by simpa using e) (fun x hx => hno x (by simp [hx]))
theorem atV_no {nm : List UInt8} : ∀ {l : List Atr}, (∀ x ∈ l, x.name ≠ nm) -> atV nm l = []
 | [], _ => rfl
 | a :: r, h => by
  unfold atV
  rw [if_neg (h a (List.mem_cons_self ..))]
  exact atV_no fun x hx => h x (List.mem_cons_of_mem _ hx)
abbrev nV (x : Nd) (ao : Option Addr) (ac : Nat) (up : Int) (ko : Option Addr) (kn kc : Nat) : Array Value := outC x.kind ⟨x.name.toArray⟩ ⟨x.data.toArray⟩ ao x.attrs.length ac up ko kn kc x.shadow x.host x.content x.fl
theorem alloc_box (X : World) (cs : Array Value) (t : TypeId) : ∃ V N, X.alloc (.cells cs t) = V /\ X.heap.size = N /\ V.heap[N]? = some (.cells cs t (0, 0)) /\ Kept (fun k => k < X.heap.size) X V /\ V.heap.size = X.heap.size + 1 :=
 ⟨_, _, rfl, rfl, heap_alloc_new X _, (Kept.refl _ X).alloc (fun _ h => h) _, by simp⟩
theorem show_any (x : Nd) (ao : Option Addr) (ac : Nat) (up : Int) (ko : Option Addr) (kn kc : Nat) (X : World) :
  Calls Tryz.prog 63 #[.agg (nV x ao ac up ko kn kc)] X fun e w' => e = .returned (.bool (showB x)) /\ Kept (fun k => k < X.heap.size) X w' := by
 obtain ⟨V, N, hV, hN, hb, hk, -⟩ := alloc_box X (nV x ao ac up ko kn kc)  41
 have c0 : V.cell? ⟨N, 0, none⟩ = some (.int .u8 (x.kind : Int)) := by rw [cell_block hb]; rfl
 have HK : Hid (Kept (fun k => k < X.heap.size) X V) := hk
 have HV : Hid (X.alloc (.cells (nV x ao ac up ko kn kc) 41) = V) := hV
 have HN : Hid (X.heap.size = N) := hN
 obtain ⟨q, hq⟩ : ∃ q, showB x = q := ⟨_, rfl⟩
 have HQ : Hid (showB x = q) := hq
 rw [hq]
 obtain ⟨kd, hkd⟩ : ∃ k, x.kind = k := ⟨_, rfl⟩
 have HKD : Hid (x.kind = kd) := hkd
 rw [hkd] at c0
 clear hV hN hb hk hkd hq
 go_enter Tryz.func63, Tryz.ntmps63
 go_upto_region 1 with fail
 rw [HV.out, HN.out]
 clear HV HN
 by_cases c1 : kd = 1
 ·subst c1
  go_wp2
  go_ret
  exact ⟨by rw [<- HQ.out]; unfold showB; rw [HKD.out]; rfl, HK.out⟩
 ·have e1 : ((kd : Int) == 1) = false := by simp; omega
  by_cases c2 : kd = 2
  ·subst c2
   go_wp2
   go_ret
   exact ⟨by rw [<- HQ.out]; unfold showB; rw [HKD.out]; rfl, HK.out⟩
  ·have e2 : ((kd : Int) == 2) = false := by simp; omega
   have HE : Hid (showB x = false) := by unfold showB; rw [HKD.out, decide_eq_false c1, decide_eq_false c2]; exact rfl
   clear c1 c2
   go_wp2
   go_ret
   exact ⟨by rw [<- HQ.out, HE.out]; rfl, HK.out⟩
theorem isSl_any (x : Nd) (ao : Option Addr) (ac : Nat) (up : Int) (ko : Option Addr) (kn kc : Nat) (X : World) :
  Calls Tryz.prog 76 #[.agg (nV x ao ac up ko kn kc)] X fun e w' => e = .returned (.bool (isSl x)) /\ Kept (fun k => k < X.heap.size) X w' := by
 obtain ⟨V, N, hV, hN, hb, hk, -⟩ := alloc_box X (nV x ao ac up ko kn kc)  41
 have c0 : V.cell? ⟨N, 0, none⟩ = some (.int .u8 (x.kind : Int)) := by rw [cell_block hb]; rfl
 have c1 : V.cell? ⟨N, 1, none⟩ = some (.string ⟨x.name.toArray⟩) := by rw [cell_block hb]; rfl
 have HK : Hid (Kept (fun k => k < X.heap.size) X V) := hk
 have HV : Hid (X.alloc (.cells (nV x ao ac up ko kn kc) 41) = V) := hV
 have HN : Hid (X.heap.size = N) := hN
 obtain ⟨q, hq⟩ : ∃ q, isSl x = q := ⟨_, rfl⟩
 have HQ : Hid (isSl x = q) := hq
 rw [hq]
 obtain ⟨kd, hkd⟩ : ∃ k, x.kind = k := ⟨_, rfl⟩
 have HKD : Hid (x.kind = kd) := hkd
 obtain ⟨s, hs⟩ : ∃ s, (⟨x.name.toArray⟩ : ByteArray) = s := ⟨_, rfl⟩
 have hsl : x.name = s.toList := by rw [<- hs, ByteArray.toList_eq]
 obtain ⟨b, hb2⟩ : ∃ b, decide (x.name = slotN) = b := ⟨_, rfl⟩
 have HB2 : Hid (decide (x.name = slotN) = b) := hb2
 have hbe : (s.toList == [115, 108, 111, 116]) = b := by
  rw [<- hb2, <- hsl]
  by_cases c : x.name = slotN
  ·rw [decide_eq_true c, c]; rfl
  ·rw [decide_eq_false c]; simpa using c
 rw [hkd] at c0
 rw [hs] at c1
 clear hV hN hb hk hkd hs hsl hb2 hq
 go_enter Tryz.func76, Tryz.ntmps76
 go_upto_region 1 with fail
 rw [HV.out, HN.out]
 clear HV HN
 by_cases k1 : kd = 1
 ·subst k1
  have HE : Hid (isSl x = b) := by unfold isSl; rw [HKD.out, HB2.out, decide_eq_true rfl, Bool.true_and]; exact rfl
  cases b with
  | true =>
   go_wp2
   go_ret
   exact ⟨by rw [<- HQ.out, HE.out]; first | rfl | simp_all, HK.out⟩
  | false =>
   go_wp2
   go_ret
   exact ⟨by rw [<- HQ.out, HE.out]; first | rfl | simp_all, HK.out⟩
 ·have e1 : ((kd : Int) == 1) = false := by simp; omega
  have HE : Hid (isSl x = false) := by unfold isSl; rw [HKD.out, decide_eq_false k1, Bool.false_and]; exact rfl
  clear k1 hbe
  go_wp2
  go_ret
  exact ⟨by rw [<- HQ.out, HE.out]; rfl, HK.out⟩
theorem attr_any (x : Nd) (ao : Option Addr) (ac : Nat) (up : Int) (ko : Option Addr) (kn kc : Nat) (s : ByteArray) (X : World) (hl : x.attrs.length <= 1000) (ha : AtsAt (fun k => k < X.heap.size) X ao x.attrs) :
  Calls Tryz.prog 67 #[.agg (nV x ao ac up ko kn kc), .string s] X fun e w' => e = .returned (sv (atV s.toList x.attrs)) /\ Kept (fun k => k < X.heap.size) X w' := by
 obtain ⟨V, N, hV, hN, hb, hk, hsV⟩ := alloc_box X (nV x ao ac up ko kn kc)  41
 obtain ⟨V2, N2, hV2, hN2, hb2, hk2, -⟩ := alloc_box V #[.string s]  9
 have hNV : N < V.heap.size := lt_block hb
 have c3 : V2.cell? ⟨N, 3, none⟩ = some (.slice ao x.attrs.length ac) := (hk2.cell (p := ⟨N, 3, none⟩) hNV).trans (by rw [cell_block hb]; rfl)
 have d0 : V2.cell? ⟨N2, 0, none⟩ = some (.string s) := by rw [cell_block hb2]; rfl
 have hkk : Kept (fun k => k < X.heap.size) X V2 := hk.trans (hk2.mono fun k h => Nat.lt_of_lt_of_le h hk.size)
 have haV : AtsAt (fun k => k < V2.heap.size) V2 ao x.attrs := ha.kept hkk fun k h => Nat.lt_of_lt_of_le h hkk.size
 obtain ⟨n, hn⟩ : ∃ n, x.attrs.length = n := ⟨_, rfl⟩
 rw [hn] at c3
 have r := indexB_any x.attrs n hn (by omega) ao ac N2 s V2 haV d0
 have HK : Hid (Kept (fun k => k < X.heap.size) X V2) := hkk
 have HV : Hid (X.alloc (.cells (nV x ao ac up ko kn kc) 41) = V) := hV
 have HN : Hid (X.heap.size = N) := hN
 have HV2 : Hid (V.alloc (.cells #[.string s] 9) = V2) := hV2
 have HN2 : Hid (N + 1 = N2) := by rw [<- hN2, hsV, hN]; exact rfl
 have HA : Hid (AtsAt (fun k => k < V2.heap.size) V2 ao x.attrs) := haV
 have HL : Hid (N < V2.heap.size) := Nat.lt_of_lt_of_le hNV hk2.size
 have HNN : Hid (x.attrs.length = n) := hn
 clear hV hN hb hk hV2 hN2 hb2 hk2 hkk haV ha hn hNV hsV
 go_enter Tryz.func67, Tryz.ntmps67
 go_upto_region 1 with fail
 rw [HV.out, HN.out, HV2.out, HN2.out]
 clear HV HN HV2 HN2
 go_wp2_with fail
 refine r.mono ?_
 rintro e w2 ⟨hor, hk2⟩
 have HK2 : Hid (Kept (fun k => k < X.heap.size) X w2) := HK.out.trans (hk2.mono fun k h => Nat.lt_of_lt_of_le h HK.out.size)
 rcases hor with ⟨k, hkl, rfl, hnm, hno⟩ | ⟨rfl, hno⟩
 ·have c3' : w2.cell? ⟨N, 3, none⟩ = some (.slice ao n ac) := (hk2.cell (p := ⟨N, 3, none⟩) HL.out).trans c3
  obtain ⟨g, o, rfl, hg, -, a1⟩ := HA.out k hkl
  have a1' : w2.cell? ⟨g, o + k * 2 + 1, none⟩ = some (sv x.attrs[k].value) := (hk2.cell (p := ⟨g, o + k * 2 + 1, none⟩) hg).trans a1
  have HE : Hid (atV s.toList x.attrs = x.attrs[k].value) := atV_at hkl hnm hno
  obtain ⟨u, hu⟩ : ∃ u, x.attrs[k].value = u := ⟨_, rfl⟩
  rw [hu] at a1'
  have HE2 : Hid (atV s.toList x.attrs = u) := HE.out.trans hu
  have hkn : k < n := by rw [<- HNN.out]; exact hkl
  have e0 : decide ((k : Int) < 0) = false := decide_eq_false (by omega)
  clear r hk2 c3 d0 a1 hno hnm hu HE
  go_wp2
  go_ret
  exact ⟨by rw [HE2.out]; rfl, HK2.out⟩
 ·have HE2 : Hid (atV s.toList x.attrs = []) := atV_no hno
  clear r hk2 c3 d0 hno
  go_wp2
  go_ret
  exact ⟨by rw [HE2.out]; rfl, HK2.out⟩
end
section
open Go.RowKit
def AskN (w : World) (v : Value) (P : Nd -> Int -> Bool) : Prop :=
 ∃ f caps, v = .func (.func f) #[] caps /\ (∀ args X, (callFunc f args).run Tryz.prog X = .ok (.enter f args) X) /\
  ∀ (x : Nd) ao ac up ko kn kc X, Kept (fun k => k < w.heap.size) w X -> x.attrs.length <= 1000 -> AtsAt (fun k => k < X.heap.size) X ao x.attrs ->
   Calls Tryz.prog f (#[.agg (nV x ao ac up ko kn kc)] ++ caps) X fun e Y => e = .returned (.bool (P x up)) /\ Kept (fun k => k < X.heap.size) X Y
theorem AskN.kept {w w' : World} {v : Value} {P : Nd -> Int -> Bool} (h : AskN w v P) (hk : Kept (fun k => k < w.heap.size) w w') : AskN w' v P := by
 obtain ⟨f, caps, e, he, hc⟩ := h
 exact ⟨f, caps, e, he, fun x ao ac up ko kn kc X hX => hc x ao ac up ko kn kc X (hk.trans (hX.mono fun k h => Nat.lt_of_lt_of_le h hk.size))⟩
theorem enter63 (args : Array Value) (X : World) : (callFunc 63 args).run Tryz.prog X = .ok (.enter 63 args) X := entersE Tryz.func63 (by kernel_rfl) (c := _) rfl args X
theorem enter76 (args : Array Value) (X : World) : (callFunc 76 args).run Tryz.prog X = .ok (.enter 76 args) X := entersE Tryz.func76 (by kernel_rfl) (c := _) rfl args X
theorem enter123 (args : Array Value) (X : World) : (callFunc 123 args).run Tryz.prog X = .ok (.enter 123 args) X := entersE Tryz.func123 (by kernel_rfl) (c := _) rfl args X
theorem enter134 (args : Array Value) (X : World) : (callFunc 134 args).run Tryz.prog X = .ok (.enter 134 args) X := entersE Tryz.func134 (by kernel_rfl) (c := _) rfl args X
theorem enter168 (args : Array Value) (X : World) : (callFunc 168 args).run Tryz.prog X = .ok (.enter 168 args) X := entersE Tryz.func168 (by kernel_rfl) (c := _) rfl args X
theorem enter169 (args : Array Value) (X : World) : (callFunc 169 args).run Tryz.prog X = .ok (.enter 169 args) X := entersE Tryz.func169 (by kernel_rfl) (c := _) rfl args X
theorem ask_show (w : World) : AskN w (.func (.func 63) #[] #[]) fun x _ => showB x := ⟨63, #[], rfl, enter63, fun x ao ac up ko kn kc X _ _ _ => show_any x ao ac up ko kn kc X⟩
theorem ask_isSl (w : World) : AskN w (.func (.func 76) #[] #[]) fun x _ => isSl x := ⟨76, #[], rfl, enter76, fun x ao ac up ko kn kc X _ _ _ => isSl_any x ao ac up ko kn kc X⟩
theorem isIn_any (z : Int) (w : World) :
  Calls Tryz.prog 126 #[.int .i64 z] w fun e w' => e = .returned (.func (.func 168) #[] #[.pointer (some ⟨w.heap.size, 0, none⟩)]) /\ w' = w.alloc (.cells #[.int .i64 z] 3) := by
 go_enter Tryz.func126, Tryz.ntmps126
 go_wp2
 go_ret
 exact ⟨rfl, rfl⟩
theorem slotNamed_any (s : ByteArray) (w : World) :
  Calls Tryz.prog 66 #[.string s] w fun e w' => e = .returned (.func (.func 123) #[] #[.pointer (some ⟨w.heap.size, 0, none⟩)]) /\ w' = w.alloc (.cells #[.string s] 9) := by
 go_enter Tryz.func66, Tryz.ntmps66
 go_wp2
 go_ret
 exact ⟨rfl, rfl⟩
theorem asksFor_any (s : ByteArray) (w : World) :
  Calls Tryz.prog 127 #[.string s] w fun e w' => e = .returned (.func (.func 169) #[] #[.pointer (some ⟨w.heap.size, 0, none⟩)]) /\ w' = w.alloc (.cells #[.string s] 9) := by
 go_enter Tryz.func127, Tryz.ntmps127
 go_wp2
 go_ret
 exact ⟨rfl, rfl⟩
theorem isIn1_any (x : Nd) (ao : Option Addr) (ac : Nat) (up : Int) (ko : Option Addr) (kn kc : Nat) (z : Int) (b : Nat) (X : World) (hb0 : X.cell? ⟨b, 0, none⟩ = some (.int .i64 z)) :
  Calls Tryz.prog 168 #[.agg (nV x ao ac up ko kn kc), .pointer (some ⟨b, 0, none⟩)] X fun e w' => e = .returned (.bool (decide (up = z))) /\ Kept (fun k => k < X.heap.size) X w' := by
 obtain ⟨V, N, hV, hN, hb, hk, -⟩ := alloc_box X (nV x ao ac up ko kn kc)  41
 have c4 : V.cell? ⟨N, 4, none⟩ = some (.int .i64 up) := by rw [cell_block hb]; rfl
 have hbl : b < X.heap.size := World.block_lt_of_cell? X _ hb0
 have b0 : V.cell? ⟨b, 0, none⟩ = some (.int .i64 z) := (hk.cell (p := ⟨b, 0, none⟩) hbl).trans hb0
 have HK : Hid (Kept (fun k => k < X.heap.size) X V) := hk
 have HV : Hid (X.alloc (.cells (nV x ao ac up ko kn kc) 41) = V) := hV
 have HN : Hid (X.heap.size = N) := hN
 obtain ⟨q, hq⟩ : ∃ q, (up == z) = q := ⟨_, rfl⟩
 have hq' : decide (up = z) = q := by rw [<- hq]; by_cases c : up = z <;> simp [c]
 rw [hq']
 clear hV hN hb hk hb0 hbl hq'
 go_enter Tryz.func168, Tryz.ntmps168
 go_upto_region 1 with fail
 rw [HV.out, HN.out]
 clear HV HN
 cases q
 all_goals
  go_wp2
  go_ret
  exact ⟨rfl, HK.out⟩
theorem size41 (cs : Array Value) (h : cs.size = 14) : (Tryz.prog.info? 41).map (·.size) = some cs.size := by rw [h]; exact info36
theorem yields_row {o : Oper} {a : Act} {X : World} {x : Operand} {N : Nat} {cs : Array Value} (ho : o.op = .load 41 x) (hx : a.eval x = .pointer (some ⟨N, 0, none⟩)) (hb : X.heap[N]? = some (.cells cs 41 (0, 0))) (hc : cs.size = 14) : (execOp a.eval o).run Tryz.prog X = .ok (.value (.agg cs)) X := by
 unfold execOp
 simp only [ho, hx, Instr.loadAt, Instr.sureAddr, Sem.run_bind, Sem.run_pure, Result.andThen_ok, run_loadVar_row X N 41 41 cs (0, 0) _ hb Tryz.underlying41 rfl (size41 cs hc)]
theorem enter67 (args : Array Value) (X : World) : (callFunc 67 args).run Tryz.prog X = .ok (.enter 67 args) X := entersE Tryz.func67 (by kernel_rfl) (c := _) rfl args X
theorem slotNamed1_any (x : Nd) (ao : Option Addr) (ac : Nat) (up : Int) (ko : Option Addr) (kn kc : Nat) (s : ByteArray) (b : Nat) (X : World) (hl : x.attrs.length <= 1000) (ha : AtsAt (fun k => k < X.heap.size) X ao x.attrs) (hb0 : X.cell? ⟨b, 0, none⟩ = some (.string s)) :
  Calls Tryz.prog 123 #[.agg (nV x ao ac up ko kn kc), .pointer (some ⟨b, 0, none⟩)] X fun e w' => e = .returned (.bool (slNm s.toList x)) /\ Kept (fun k => k < X.heap.size) X w' := by
 obtain ⟨V, N, hV, hN, hb, hk, -⟩ := alloc_box X (nV x ao ac up ko kn kc)  41
 have hbl : b < X.heap.size := World.block_lt_of_cell? X _ hb0
 have b0 : V.cell? ⟨b, 0, none⟩ = some (.string s) := (hk.cell (p := ⟨b, 0, none⟩) hbl).trans hb0
 have haV : AtsAt (fun k => k < V.heap.size) V ao x.attrs := ha.kept hk fun k h => Nat.lt_of_lt_of_le h hk.size
 have R1 : Hid (∀ Y, Calls Tryz.prog 76 #[.agg (nV x ao ac up ko kn kc)] Y fun e w' => e = .returned (.bool (isSl x)) /\ Kept (fun k => k < Y.heap.size) Y w') := fun Y => isSl_any x ao ac up ko kn kc Y
 have R2 : Hid (∀ Y, Kept (fun k => k < V.heap.size) V Y -> Calls Tryz.prog 67 #[.agg (nV x ao ac up ko kn kc), .string ⟨#[110, 97, 109, 101]⟩] Y fun e w' => e = .returned (sv (atV nameN x.attrs)) /\ Kept (fun k => k < Y.heap.size) Y w') := fun Y hY => by
  have := attr_any x ao ac up ko kn kc ⟨#[110, 97, 109, 101]⟩ Y hl (haV.kept hY fun k h => Nat.lt_of_lt_of_le h hY.size)
  rw [ByteArray.toList_eq] at this
  exact this
 obtain ⟨cs, hcs⟩ : ∃ cs, nV x ao ac up ko kn kc = cs := ⟨_, rfl⟩
 have hcz : cs.size = 14 := by rw [<- hcs]; rfl
 rw [hcs] at R1 R2 hb hV ⊢
 have HK : Hid (Kept (fun k => k < X.heap.size) X V) := hk
 have HV : Hid (X.alloc (.cells cs 41) = V) := hV
 have HN : Hid (X.heap.size = N) := hN
 have HBK : Hid (∀ Y, Kept (fun k => k < V.heap.size) V Y -> Y.heap[N]? = some (.cells cs 41 (0, 0))) := fun Y hY => by rw [hY.block N (lt_block hb)]; exact hb
 have HB0 : Hid (∀ Y, Kept (fun k => k < V.heap.size) V Y -> Y.cell? ⟨b, 0, none⟩ = some (.string s)) := fun Y hY => (hY.cell (p := ⟨b, 0, none⟩) (Nat.lt_of_lt_of_le hbl hk.size)).trans b0
 obtain ⟨q, hq⟩ : ∃ q, slNm s.toList x = q := ⟨_, rfl⟩
 have HQ : Hid (slNm s.toList x = q) := hq
 rw [hq]
 obtain ⟨t, ht⟩ : ∃ t, isSl x = t := ⟨_, rfl⟩
 have HT : Hid (isSl x = t) := ht
 rw [ht] at R1
 obtain ⟨u, hu⟩ : ∃ u, (⟨(atV nameN x.attrs).toArray⟩ : ByteArray) = u := ⟨_, rfl⟩
 have HU : Hid (atV nameN x.attrs = u.toList) := by rw [<- hu, ByteArray.toList_eq]; exact rfl
 unfold sv at R2
 rw [hu] at R2
 clear hV hN hb hk hb0 hbl hq ht hu haV ha hcs b0
 go_enter Tryz.func123, Tryz.ntmps123
 go_upto_region 1 with fail
 rw [HV.out, HN.out]
 clear HV HN
 cases t with
 | false =>
  refine wp_region_held_drew (S := fun Y => Kept (fun k => k < V.heap.size) V Y) (by kernel_rfl) ((Kept.refl _ V).drew) (fun hHeld => ?_)
  refine tkH 0 4 (.agg cs) rfl rfl (by kernel_rfl) (by rfl) (by intro Y hY; exact yields_row rfl rfl (HBK.out Y hY) hcz) (fun _ _ _ h => h) hHeld ?_
  try simp only [Act.put, sA, s0, s1]
  refine clH 1 5 76 #[.agg cs] rfl rfl (by kernel_rfl) (by rfl) rfl (by first | rfl | (simp [Act.eval]; done) | (simp [Act.eval, Act.put]; done)) (enter76 _ _) (R1.out _) ?_
  rintro e Y ⟨rfl, hk9⟩
  refine ⟨_, rfl, hHeld.trans (hk9.mono fun k h => Nat.lt_of_lt_of_le h hHeld.size), fun hHeld2 => ?_⟩
  replace hHeld := hHeld2
  clear hHeld2
  try simp only [Act.put, sA, s0, s1]
  refine tkH 2 6 (.bool false) rfl rfl (by kernel_rfl) (by rfl) (by intro Y hY; go_simp; try with_reducible rfl) (fun _ _ _ h => h) hHeld ?_
  try simp only [Act.put, sA, s0, s1]
  refine tkU 3 7 rfl rfl (by kernel_rfl) (by rfl) (fun _ _ _ h => h) hHeld ?_
  try simp only [Act.put, sA, s0, s1]
  refine tkU 4 8 rfl rfl (by kernel_rfl) (by rfl) (fun _ _ _ h => h) hHeld ?_
  try simp only [Act.put, sA, s0, s1]
  refine tkU 5 9 rfl rfl (by kernel_rfl) (by rfl) (fun _ _ _ h => h) hHeld ?_
  try simp only [Act.put, sA, s0, s1]
  refine tkU 6 10 rfl rfl (by kernel_rfl) (by rfl) (fun _ _ _ h => h) hHeld ?_
  try simp only [Act.put, sA, s0, s1]
  refine tkH 7 11 (.bool false) rfl rfl (by kernel_rfl) (by rfl) (by intro Y hY; go_simp; try with_reducible rfl) (fun _ _ _ h => h) hHeld ?_
  try simp only [Act.put, sA, s0, s1]
  refine tkH 8 3 (.bool false) rfl rfl (by kernel_rfl) (by rfl) (by intro Y hY; go_simp; try with_reducible rfl) (fun _ _ _ h => h) hHeld ?_
  try simp only [Act.put, sA, s0, s1]
  refine wpAnyH_done (by kernel_rfl) ?_ _
  go_wp2
  go_ret
  exact ⟨by rw [<- HQ.out]; unfold slNm; rw [HT.out, Bool.false_and]; rfl, HK.out.trans (hHeld.mono fun k h => Nat.lt_of_lt_of_le h HK.out.size)⟩
 | true =>
  obtain ⟨d, hd⟩ : ∃ d, (u.toList == s.toList) = d := ⟨_, rfl⟩
  have HE : Hid (q = d) := by
   rw [<- HQ.out, <- hd]
   unfold slNm
   rw [HT.out, Bool.true_and, HU.out]
   by_cases c : u.toList = s.toList
   ·rw [decide_eq_true c, c]; exact (beq_self_eq_true _).symm
   ·rw [decide_eq_false c]; exact (beq_eq_false_iff_ne.2 c).symm
  refine wp_region_held_drew (S := fun Y => Kept (fun k => k < V.heap.size) V Y) (by kernel_rfl) ((Kept.refl _ V).drew) (fun hHeld => ?_)
  refine tkH 0 4 (.agg cs) rfl rfl (by kernel_rfl) (by rfl) (by intro Y hY; exact yields_row rfl rfl (HBK.out Y hY) hcz) (fun _ _ _ h => h) hHeld ?_
  try simp only [Act.put, sA, s0, s1]
  refine clH 1 5 76 #[.agg cs] rfl rfl (by kernel_rfl) (by rfl) rfl (by first | rfl | (simp [Act.eval]; done) | (simp [Act.eval, Act.put]; done)) (enter76 _ _) (R1.out _) ?_
  rintro e Y ⟨rfl, hk9⟩
  refine ⟨_, rfl, hHeld.trans (hk9.mono fun k h => Nat.lt_of_lt_of_le h hHeld.size), fun hHeld2 => ?_⟩
  replace hHeld := hHeld2
  clear hHeld2
  try simp only [Act.put, sA, s0, s1]
  refine tkH 2 6 (.bool true) rfl rfl (by kernel_rfl) (by rfl) (by intro Y hY; go_simp; try with_reducible rfl) (fun _ _ _ h => h) hHeld ?_
  try simp only [Act.put, sA, s0, s1]
  refine tkH 3 7 (.agg cs) rfl rfl (by kernel_rfl) (by rfl) (by intro Y hY; exact yields_row rfl rfl (HBK.out Y hY) hcz) (fun _ _ _ h => h) hHeld ?_
  try simp only [Act.put, sA, s0, s1]
  refine tkH 5 9 (.string s) rfl rfl (by kernel_rfl) (by rfl) (by intro Y hY; have hc := HB0.out Y hY; go_simp; try with_reducible rfl) (fun _ _ _ h => h) hHeld ?_
  try simp only [Act.put, sA, s0, s1]
  refine clH 4 8 67 #[.agg cs, .string ⟨#[110, 97, 109, 101]⟩] rfl rfl (by kernel_rfl) (by rfl) rfl (by first | rfl | (simp [Act.eval]; done) | (simp [Act.eval, Act.put]; done)) (enter67 _ _) (R2.out _ hHeld) ?_
  rintro e Y ⟨rfl, hk9⟩
  refine ⟨_, rfl, hHeld.trans (hk9.mono fun k h => Nat.lt_of_lt_of_le h hHeld.size), fun hHeld2 => ?_⟩
  replace hHeld := hHeld2
  clear hHeld2
  try simp only [Act.put, sA, s0, s1]
  cases d with
  | false =>
   refine tkH 6 10 (.bool false) rfl rfl (by kernel_rfl) (by rfl) (by intro Y hY; go_simp; try with_reducible rfl) (fun _ _ _ h => h) hHeld ?_
   try simp only [Act.put, sA, s0, s1]
   refine tkH 7 11 (.bool false) rfl rfl (by kernel_rfl) (by rfl) (by intro Y hY; go_simp; try with_reducible rfl) (fun _ _ _ h => h) hHeld ?_
   try simp only [Act.put, sA, s0, s1]
   refine tkH 8 3 (.bool false) rfl rfl (by kernel_rfl) (by rfl) (by intro Y hY; go_simp; try with_reducible rfl) (fun _ _ _ h => h) hHeld ?_
   try simp only [Act.put, sA, s0, s1]
   refine wpAnyH_done (by kernel_rfl) ?_ _
   go_wp2
   go_ret
   exact ⟨by rw [HE.out]; rfl, HK.out.trans (hHeld.mono fun k h => Nat.lt_of_lt_of_le h HK.out.size)⟩
  | true =>
   refine tkH 6 10 (.bool true) rfl rfl (by kernel_rfl) (by rfl) (by intro Y hY; go_simp; try with_reducible rfl) (fun _ _ _ h => h) hHeld ?_
   try simp only [Act.put, sA, s0, s1]
   refine tkH 7 11 (.bool true) rfl rfl (by kernel_rfl) (by rfl) (by intro Y hY; go_simp; try with_reducible rfl) (fun _ _ _ h => h) hHeld ?_
   try simp only [Act.put, sA, s0, s1]
   refine tkH 8 3 (.bool true) rfl rfl (by kernel_rfl) (by rfl) (by intro Y hY; go_simp; try with_reducible rfl) (fun _ _ _ h => h) hHeld ?_
   try simp only [Act.put, sA, s0, s1]
   refine wpAnyH_done (by kernel_rfl) ?_ _
   go_wp2
   go_ret
   exact ⟨by rw [HE.out]; rfl, HK.out.trans (hHeld.mono fun k h => Nat.lt_of_lt_of_le h HK.out.size)⟩
theorem asksFor1_any (x : Nd) (ao : Option Addr) (ac : Nat) (up : Int) (ko : Option Addr) (kn kc : Nat) (s : ByteArray) (b : Nat) (X : World) (hl : x.attrs.length <= 1000) (ha : AtsAt (fun k => k < X.heap.size) X ao x.attrs) (hb0 : X.cell? ⟨b, 0, none⟩ = some (.string s)) :
  Calls Tryz.prog 169 #[.agg (nV x ao ac up ko kn kc), .pointer (some ⟨b, 0, none⟩)] X fun e w' => e = .returned (.bool (asksB s.toList x)) /\ Kept (fun k => k < X.heap.size) X w' := by
 obtain ⟨V, N, hV, hN, hb, hk, -⟩ := alloc_box X (nV x ao ac up ko kn kc)  41
 have hbl : b < X.heap.size := World.block_lt_of_cell? X _ hb0
 have b0 : V.cell? ⟨b, 0, none⟩ = some (.string s) := (hk.cell (p := ⟨b, 0, none⟩) hbl).trans hb0
 have haV : AtsAt (fun k => k < V.heap.size) V ao x.attrs := ha.kept hk fun k h => Nat.lt_of_lt_of_le h hk.size
 have R1 : Hid (∀ Y, Calls Tryz.prog 63 #[.agg (nV x ao ac up ko kn kc)] Y fun e w' => e = .returned (.bool (showB x)) /\ Kept (fun k => k < Y.heap.size) Y w') := fun Y => show_any x ao ac up ko kn kc Y
 have R2 : Hid (∀ Y, Kept (fun k => k < V.heap.size) V Y -> Calls Tryz.prog 67 #[.agg (nV x ao ac up ko kn kc), .string ⟨#[115, 108, 111, 116]⟩] Y fun e w' => e = .returned (sv (atV slotN x.attrs)) /\ Kept (fun k => k < Y.heap.size) Y w') := fun Y hY => by
  have := attr_any x ao ac up ko kn kc ⟨#[115, 108, 111, 116]⟩ Y hl (haV.kept hY fun k h => Nat.lt_of_lt_of_le h hY.size)
  rw [ByteArray.toList_eq] at this
  exact this
 obtain ⟨cs, hcs⟩ : ∃ cs, nV x ao ac up ko kn kc = cs := ⟨_, rfl⟩
 have hcz : cs.size = 14 := by rw [<- hcs]; rfl
 rw [hcs] at R1 R2 hb hV ⊢
 have HK : Hid (Kept (fun k => k < X.heap.size) X V) := hk
 have HV : Hid (X.alloc (.cells cs 41) = V) := hV
 have HN : Hid (X.heap.size = N) := hN
 have HBK : Hid (∀ Y, Kept (fun k => k < V.heap.size) V Y -> Y.heap[N]? = some (.cells cs 41 (0, 0))) := fun Y hY => by rw [hY.block N (lt_block hb)]; exact hb
 have HB0 : Hid (∀ Y, Kept (fun k => k < V.heap.size) V Y -> Y.cell? ⟨b, 0, none⟩ = some (.string s)) := fun Y hY => (hY.cell (p := ⟨b, 0, none⟩) (Nat.lt_of_lt_of_le hbl hk.size)).trans b0
 obtain ⟨q, hq⟩ : ∃ q, asksB s.toList x = q := ⟨_, rfl⟩
 have HQ : Hid (asksB s.toList x = q) := hq
 rw [hq]
 obtain ⟨t, ht⟩ : ∃ t, showB x = t := ⟨_, rfl⟩
 have HT : Hid (showB x = t) := ht
 rw [ht] at R1
 obtain ⟨u, hu⟩ : ∃ u, (⟨(atV slotN x.attrs).toArray⟩ : ByteArray) = u := ⟨_, rfl⟩
 have HU : Hid (atV slotN x.attrs = u.toList) := by rw [<- hu, ByteArray.toList_eq]; exact rfl
 unfold sv at R2
 rw [hu] at R2
 clear hV hN hb hk hb0 hbl hq ht hu haV ha hcs b0
 go_enter Tryz.func169, Tryz.ntmps169
 go_upto_region 1 with fail
 rw [HV.out, HN.out]
 clear HV HN
 cases t with
 | false =>
  refine wp_region_held_drew (S := fun Y => Kept (fun k => k < V.heap.size) V Y) (by kernel_rfl) ((Kept.refl _ V).drew) (fun hHeld => ?_)
  refine tkH 0 4 (.agg cs) rfl rfl (by kernel_rfl) (by rfl) (by intro Y hY; exact yields_row rfl rfl (HBK.out Y hY) hcz) (fun _ _ _ h => h) hHeld ?_
  try simp only [Act.put, sA, s0, s1]
  refine clH 1 5 63 #[.agg cs] rfl rfl (by kernel_rfl) (by rfl) rfl (by first | rfl | (simp [Act.eval]; done) | (simp [Act.eval, Act.put]; done)) (enter63 _ _) (R1.out _) ?_
  rintro e Y ⟨rfl, hk9⟩
  refine ⟨_, rfl, hHeld.trans (hk9.mono fun k h => Nat.lt_of_lt_of_le h hHeld.size), fun hHeld2 => ?_⟩
  replace hHeld := hHeld2
  clear hHeld2
  try simp only [Act.put, sA, s0, s1]
  refine tkH 2 6 (.bool false) rfl rfl (by kernel_rfl) (by rfl) (by intro Y hY; go_simp; try with_reducible rfl) (fun _ _ _ h => h) hHeld ?_
  try simp only [Act.put, sA, s0, s1]
  refine tkU 3 7 rfl rfl (by kernel_rfl) (by rfl) (fun _ _ _ h => h) hHeld ?_
  try simp only [Act.put, sA, s0, s1]
  refine tkU 4 8 rfl rfl (by kernel_rfl) (by rfl) (fun _ _ _ h => h) hHeld ?_
  try simp only [Act.put, sA, s0, s1]
  refine tkU 5 9 rfl rfl (by kernel_rfl) (by rfl) (fun _ _ _ h => h) hHeld ?_
  try simp only [Act.put, sA, s0, s1]
  refine tkU 6 10 rfl rfl (by kernel_rfl) (by rfl) (fun _ _ _ h => h) hHeld ?_
  try simp only [Act.put, sA, s0, s1]
  refine tkH 7 11 (.bool false) rfl rfl (by kernel_rfl) (by rfl) (by intro Y hY; go_simp; try with_reducible rfl) (fun _ _ _ h => h) hHeld ?_
  try simp only [Act.put, sA, s0, s1]
  refine tkH 8 3 (.bool false) rfl rfl (by kernel_rfl) (by rfl) (by intro Y hY; go_simp; try with_reducible rfl) (fun _ _ _ h => h) hHeld ?_
  try simp only [Act.put, sA, s0, s1]
  refine wpAnyH_done (by kernel_rfl) ?_ _
  go_wp2
  go_ret
  exact ⟨by rw [<- HQ.out]; unfold asksB; rw [HT.out, Bool.false_and]; rfl, HK.out.trans (hHeld.mono fun k h => Nat.lt_of_lt_of_le h HK.out.size)⟩
 | true =>
  obtain ⟨d, hd⟩ : ∃ d, (u.toList == s.toList) = d := ⟨_, rfl⟩
  have HE : Hid (q = d) := by
   rw [<- HQ.out, <- hd]
   unfold asksB
   rw [HT.out, Bool.true_and, HU.out]
   by_cases c : u.toList = s.toList
   ·rw [decide_eq_true c, c]; exact (beq_self_eq_true _).symm
   ·rw [decide_eq_false c]; exact (beq_eq_false_iff_ne.2 c).symm
  refine wp_region_held_drew (S := fun Y => Kept (fun k => k < V.heap.size) V Y) (by kernel_rfl) ((Kept.refl _ V).drew) (fun hHeld => ?_)
  refine tkH 0 4 (.agg cs) rfl rfl (by kernel_rfl) (by rfl) (by intro Y hY; exact yields_row rfl rfl (HBK.out Y hY) hcz) (fun _ _ _ h => h) hHeld ?_
  try simp only [Act.put, sA, s0, s1]
  refine clH 1 5 63 #[.agg cs] rfl rfl (by kernel_rfl) (by rfl) rfl (by first | rfl | (simp [Act.eval]; done) | (simp [Act.eval, Act.put]; done)) (enter63 _ _) (R1.out _) ?_
  rintro e Y ⟨rfl, hk9⟩
  refine ⟨_, rfl, hHeld.trans (hk9.mono fun k h => Nat.lt_of_lt_of_le h hHeld.size), fun hHeld2 => ?_⟩
  replace hHeld := hHeld2
  clear hHeld2
  try simp only [Act.put, sA, s0, s1]
  refine tkH 2 6 (.bool true) rfl rfl (by kernel_rfl) (by rfl) (by intro Y hY; go_simp; try with_reducible rfl) (fun _ _ _ h => h) hHeld ?_
  try simp only [Act.put, sA, s0, s1]
  refine tkH 3 7 (.agg cs) rfl rfl (by kernel_rfl) (by rfl) (by intro Y hY; exact yields_row rfl rfl (HBK.out Y hY) hcz) (fun _ _ _ h => h) hHeld ?_
  try simp only [Act.put, sA, s0, s1]
  refine tkH 5 9 (.string s) rfl rfl (by kernel_rfl) (by rfl) (by intro Y hY; have hc := HB0.out Y hY; go_simp; try with_reducible rfl) (fun _ _ _ h => h) hHeld ?_
  try simp only [Act.put, sA, s0, s1]
  refine clH 4 8 67 #[.agg cs, .string ⟨#[115, 108, 111, 116]⟩] rfl rfl (by kernel_rfl) (by rfl) rfl (by first | rfl | (simp [Act.eval]; done) | (simp [Act.eval, Act.put]; done)) (enter67 _ _) (R2.out _ hHeld) ?_
  rintro e Y ⟨rfl, hk9⟩
  refine ⟨_, rfl, hHeld.trans (hk9.mono fun k h => Nat.lt_of_lt_of_le h hHeld.size), fun hHeld2 => ?_⟩
  replace hHeld := hHeld2
  clear hHeld2
  try simp only [Act.put, sA, s0, s1]
  cases d with
  | false =>
   refine tkH 6 10 (.bool false) rfl rfl (by kernel_rfl) (by rfl) (by intro Y hY; go_simp; try with_reducible rfl) (fun _ _ _ h => h) hHeld ?_
   try simp only [Act.put, sA, s0, s1]
   refine tkH 7 11 (.bool false) rfl rfl (by kernel_rfl) (by rfl) (by intro Y hY; go_simp; try with_reducible rfl) (fun _ _ _ h => h) hHeld ?_
   try simp only [Act.put, sA, s0, s1]
   refine tkH 8 3 (.bool false) rfl rfl (by kernel_rfl) (by rfl) (by intro Y hY; go_simp; try with_reducible rfl) (fun _ _ _ h => h) hHeld ?_
   try simp only [Act.put, sA, s0, s1]
   refine wpAnyH_done (by kernel_rfl) ?_ _
   go_wp2
   go_ret
   exact ⟨by rw [HE.out]; rfl, HK.out.trans (hHeld.mono fun k h => Nat.lt_of_lt_of_le h HK.out.size)⟩
  | true =>
   refine tkH 6 10 (.bool true) rfl rfl (by kernel_rfl) (by rfl) (by intro Y hY; go_simp; try with_reducible rfl) (fun _ _ _ h => h) hHeld ?_
   try simp only [Act.put, sA, s0, s1]
   refine tkH 7 11 (.bool true) rfl rfl (by kernel_rfl) (by rfl) (by intro Y hY; go_simp; try with_reducible rfl) (fun _ _ _ h => h) hHeld ?_
   try simp only [Act.put, sA, s0, s1]
   refine tkH 8 3 (.bool true) rfl rfl (by kernel_rfl) (by rfl) (by intro Y hY; go_simp; try with_reducible rfl) (fun _ _ _ h => h) hHeld ?_
   try simp only [Act.put, sA, s0, s1]
   refine wpAnyH_done (by kernel_rfl) ?_ _
   go_wp2
   go_ret
   exact ⟨by rw [HE.out]; rfl, HK.out.trans (hHeld.mono fun k h => Nat.lt_of_lt_of_le h HK.out.size)⟩
theorem ask_named {s : ByteArray} {b : Nat} {w : World} (hb : w.cell? ⟨b, 0, none⟩ = some (.string s)) : AskN w (.func (.func 123) #[] #[.pointer (some ⟨b, 0, none⟩)]) fun x _ => slNm s.toList x :=
 ⟨123, #[.pointer (some ⟨b, 0, none⟩)], rfl, enter123, fun x ao ac up ko kn kc X hX hl ha => slotNamed1_any x ao ac up ko kn kc s b X hl ha ((hX.cell (p := ⟨b, 0, none⟩) (World.block_lt_of_cell? w _ hb)).trans hb)⟩
theorem ask_asks {s : ByteArray} {b : Nat} {w : World} (hb : w.cell? ⟨b, 0, none⟩ = some (.string s)) : AskN w (.func (.func 169) #[] #[.pointer (some ⟨b, 0, none⟩)]) fun x _ => asksB s.toList x :=
 ⟨169, #[.pointer (some ⟨b, 0, none⟩)], rfl, enter169, fun x ao ac up ko kn kc X hX hl ha => asksFor1_any x ao ac up ko kn kc s b X hl ha ((hX.cell (p := ⟨b, 0, none⟩) (World.block_lt_of_cell? w _ hb)).trans hb)⟩
theorem ask_isIn {z : Int} {b : Nat} {w : World} (hb : w.cell? ⟨b, 0, none⟩ = some (.int .i64 z)) : AskN w (.func (.func 168) #[] #[.pointer (some ⟨b, 0, none⟩)]) fun _ up => decide (up = z) :=
 ⟨168, #[.pointer (some ⟨b, 0, none⟩)], rfl, enter168, fun x ao ac up ko kn kc X hX hl ha => isIn1_any x ao ac up ko kn kc z b X ((hX.cell (p := ⟨b, 0, none⟩) (World.block_lt_of_cell? w _ hb)).trans hb)⟩
def TellK (w : World) (v : Value) (b : Nat -> Bool) (n : Nat) : Prop :=
 ∃ f caps, v = .func (.func f) #[] caps /\ (∀ args X, (callFunc f args).run Tryz.prog X = .ok (.enter f args) X) /\
  ∀ i, i < n -> ∀ X, Kept (fun k => k < w.heap.size) w X -> Calls Tryz.prog f (#[.int .i64 (i : Int)] ++ caps) X fun e Y => e = .returned (.bool (b i)) /\ Kept (fun k => k < X.heap.size) X Y
theorem TellK.kept {w w' : World} {v : Value} {b : Nat -> Bool} {n : Nat} (h : TellK w v b n) (hk : Kept (fun k => k < w.heap.size) w w') : TellK w' v b n := by
 obtain ⟨f, caps, e, he, hc⟩ := h
 exact ⟨f, caps, e, he, fun i hi X hX => hc i hi X (hk.trans (hX.mono fun k h => Nat.lt_of_lt_of_le h hk.size))⟩
theorem byNumber1_any (K : Nat -> Prop) (p i b1 b2 : Nat) (M : Dm) (R : Nat -> List Nat) (P : Nd -> Int -> Bool) (v : Value) (X : World) (h : DX K X p M) (hW : WF M.n M.pl R) (hi : i < M.n) (hn : M.n <= 1000000) (hf : Few M)
  (h1 : X.cell? ⟨b1, 0, none⟩ = some (.pointer (some ⟨p, 0, none⟩))) (h2 : X.cell? ⟨b2, 0, none⟩ = some v) (ha : AskN X v P) :
  Calls Tryz.prog 134 #[.int .i64 (i : Int), .pointer (some ⟨b1, 0, none⟩), .pointer (some ⟨b2, 0, none⟩)] X fun e w' => e = .returned (.bool (P (M.nd i) (M.pl i).up)) /\ Kept (fun k => k < X.heap.size) X w' := by
 have rn := node_any K p i M R X h hW hi hn hf
 have hb2 := World.block_lt_of_cell? X _ h2
 have HB2 : Hid (b2 < X.heap.size) := hb2
 have HA : Hid (AskN X v P) := ha
 have HF : Hid ((M.nd i).attrs.length <= 1000) := hf i hi
 clear h hW hf hb2 ha
 go_enter Tryz.func134, Tryz.ntmps134
 go_wp2_with fail
 refine rn.mono ?_
 rintro e v1 ⟨ao, ac, ko, kc, rfl, hO, -, hK⟩
 obtain ⟨V, N, hV, hN, hb, hk, -⟩ := alloc_box v1 (nV (M.nd i) ao ac (M.pl i).up ko (R i).length kc)  41
 have kXV : Kept (fun k => k < X.heap.size) X V := hK.trans (hk.mono fun k h => Nat.lt_of_lt_of_le h hK.size)
 have h2' : V.cell? ⟨b2, 0, none⟩ = some v := (kXV.cell (p := ⟨b2, 0, none⟩) HB2.out).trans h2
 have haV : AtsAt (fun k => k < V.heap.size) V ao (M.nd i).attrs := (hO.atsAt (K' := fun k => k < v1.heap.size) fun g hg => (OwnZ.out hO hg).2).kept hk fun k h => Nat.lt_of_lt_of_le h hk.size
 obtain ⟨f, caps, rfl, he, hc⟩ := HA.out
 have r := hc (M.nd i) ao ac (M.pl i).up ko (R i).length kc V kXV HF.out haV
 obtain ⟨cs, hcs⟩ : ∃ cs, nV (M.nd i) ao ac (M.pl i).up ko (R i).length kc = cs := ⟨_, rfl⟩
 have hcz : cs.size = 14 := by rw [<- hcs]; rfl
 have hcI := size41 cs hcz
 have HV : Hid (v1.alloc (.cells (nV (M.nd i) ao ac (M.pl i).up ko (R i).length kc) 41) = V) := hV
 have HN : Hid (v1.heap.size = N) := hN
 have HK : Hid (Kept (fun k => k < X.heap.size) X V) := kXV
 rw [hcs] at r hb
 have HR : Hid (Calls Tryz.prog f (#[.agg cs] ++ caps) V fun e Y => e = .returned (.bool (P (M.nd i) (M.pl i).up)) /\ Kept (fun k => k < V.heap.size) V Y) := r
 clear rn hO hK hV hN hk kXV hc r hcs haV h2
 go_upto_region 2 with fail
 rw [HV.out, HN.out]
 clear HV HN
 go_wp2_with (refine wpList_load_row rfl 41 _ rfl N rfl 41 cs (0, 0) _ hb Tryz.underlying41 rfl hcI ?_)
 refine HR.out.mono ?_
 rintro e w2 ⟨rfl, hk2⟩
 have HK2 : Hid (Kept (fun k => k < X.heap.size) X w2) := HK.out.trans (hk2.mono fun k h => Nat.lt_of_lt_of_le h HK.out.size)
 clear HR hk2 he h1 h2' hb
 go_wp2
 go_ret
 exact ⟨rfl, HK2.out⟩
theorem byNumber_any (K : Nat -> Prop) (p : Nat) (M : Dm) (R : Nat -> List Nat) (P : Nd -> Int -> Bool) (v : Value) (X : World) (h : DX K X p M) (hW : WF M.n M.pl R) (hn : M.n <= 1000000) (hf : Few M) (ha : AskN X v P) :
  Calls Tryz.prog 79 #[.pointer (some ⟨p, 0, none⟩), v] X fun e w' => ∃ u, e = .returned u /\ TellK w' u (fun i => P (M.nd i) (M.pl i).up) M.n /\ Kept (fun k => k < X.heap.size) X w' := by
 obtain ⟨V1, N1, hV1, hN1, hb1, hk1, hs1⟩ := alloc_box X #[.pointer (some ⟨p, 0, none⟩)]  25
 obtain ⟨V2, N2, hV2, hN2, hb2, hk2, -⟩ := alloc_box V1 #[v]  78
 have k12 : Kept (fun k => k < X.heap.size) X V2 := hk1.trans (hk2.mono fun k h => Nat.lt_of_lt_of_le h hk1.size)
 have c1 : V2.cell? ⟨N1, 0, none⟩ = some (.pointer (some ⟨p, 0, none⟩)) := (hk2.cell (p := ⟨N1, 0, none⟩) (lt_block hb1)).trans (by rw [cell_block hb1]; rfl)
 have c2 : V2.cell? ⟨N2, 0, none⟩ = some v := by rw [cell_block hb2]; rfl
 have HT : Hid (TellK V2 (.func (.func 134) #[] #[.pointer (some ⟨N1, 0, none⟩), .pointer (some ⟨N2, 0, none⟩)]) (fun i => P (M.nd i) (M.pl i).up) M.n /\ Kept (fun k => k < X.heap.size) X V2) := by
  refine ⟨⟨134, _, rfl, enter134, fun i hi Y hY => ?_⟩, k12⟩
  have kY : Kept (fun k => k < X.heap.size) X Y := k12.trans (hY.mono fun k h => Nat.lt_of_lt_of_le h k12.size)
  exact byNumber1_any K p i N1 N2 M R P v Y (h.kept kY) hW hi hn hf ((hY.cell (p := ⟨N1, 0, none⟩) (World.block_lt_of_cell? V2 _ c1)).trans c1) ((hY.cell (p := ⟨N2, 0, none⟩) (World.block_lt_of_cell? V2 _ c2)).trans c2) (ha.kept kY)
 have HV1 : Hid (X.alloc (.cells #[.pointer (some ⟨p, 0, none⟩)] 25) = V1) := hV1
 have HN1 : Hid (X.heap.size = N1) := hN1
 have HV2 : Hid (V1.alloc (.cells #[v] 78) = V2) := hV2
 have HN2 : Hid (N1 + 1 = N2) := by rw [<- hN2, hs1, hN1]; exact rfl
 obtain ⟨f, caps, rfl, -⟩ := ha
 clear h hW hf hV1 hN1 hb1 hk1 hs1 hV2 hN2 hb2 hk2 k12 c1 c2
 go_enter Tryz.func79, Tryz.ntmps79
 go_upto_region 1 with fail
 rw [HV1.out, HN1.out, HV2.out, HN2.out]
 clear HV1 HN1 HV2 HN2
 go_wp2
 go_ret
 exact ⟨_, rfl, HT.out.1, HT.out.2⟩
end
end Go.Proofs.YtkngpgkldkohgaaGreat
