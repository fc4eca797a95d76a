/-
 Attributes, slots, and who asks for them, as plain functions (pure).; slots: attribute, and the questions that are asked of a node.; What is true of trees of a document (pure).; shadow.Of, isClosed, Open.
-/
import Derived.Test.YtljnjdckhkglfaaP12
import Derived.Test.YtljnjdckhkglfaaP10
import Derived.Test.YtljnjdckhkglfaaP15
import Derived.Test.YtljnjdckhkglfaaP13
import Derived.Test.YtljnjdckhkglfaaP11
import Derived.Laws.EntriesVeiled
namespace Go.Proofs.Ytljnjdckhkglfaa
set_option linter.unusedVariables false
set_option maxRecDepth 100000
set_option maxHeartbeats 8000000
section
def atV (nm : List UInt8) : List Atr -> List UInt8
 | [] => []
 | a :: r => if a.name = nm then a.value else atV nm r
abbrev nameN : List UInt8 := [110, 97, 109, 101]
def isSl (x : Nd) : Bool := decide (x.kind = 1) && decide (x.name = slotN)
def slNm (nm : List UInt8) (x : Nd) : Bool := isSl x && decide (atV nameN x.attrs = nm)
def asksB (nm : List UInt8) (x : Nd) : Bool := showB x && decide (atV slotN x.attrs = nm)
def fstO (P : Nat -> Bool) (l : List Nat) : Int := match l.find? P with | some k => (k : Int) | none => -1
end
section
open Go.RowKit
theorem enter74 (args : Array Value) (X : World) : (callFunc 74 args).run Try.prog X = .ok (.enter 74 args) X := entersE Try.func74 (by kernel_rfl) (c := _) rfl args X
theorem atr1_any (a v s : ByteArray) (b : Nat) (w : World) (hb : w.cell? ⟨b, 0, none⟩ = some (.string s)) :
  Calls Try.prog 74 #[.agg #[.string a, .string v], .pointer (some ⟨b, 0, none⟩)] w fun e w' => e = .returned (.bool (a.toList == s.toList)) /\ Kept (fun k => k < w.heap.size) w w' := by
 obtain ⟨W, hW⟩ : ∃ W, w.alloc (.cells #[.string a, .string v] 76) = W := ⟨_, rfl⟩
 have kW : Kept (fun k => k < w.heap.size) w W := by rw [<- hW]; exact (Kept.refl _ w).alloc (fun _ h => h) _
 have hbl : b < w.heap.size := World.block_lt_of_cell? w _ hb
 have hbW : W.cell? ⟨b, 0, none⟩ = some (.string s) := (kW.cell (p := ⟨b, 0, none⟩) hbl).trans hb
 have h0 : W.cell? ⟨w.heap.size, 0, none⟩ = some (.string a) := by rw [<- hW, cell_block (heap_alloc_new w _)]; rfl
 obtain ⟨q, hq⟩ : ∃ q, (a.toList == s.toList) = q := ⟨_, rfl⟩
 rw [hq]
 have HW : Hid (w.alloc (.cells #[.string a, .string v] 76) = W) := hW
 have HK : Hid (Kept (fun k => k < w.heap.size) w W) := kW
 obtain ⟨N, hN⟩ : ∃ N, w.heap.size = N := ⟨_, rfl⟩
 rw [hN] at h0
 have HN : Hid (w.heap.size = N) := hN
 clear hW kW hb hbl hN
 cases q
 all_goals
  go_enter Try.func74, Try.ntmps74
  go_upto_region 1 with fail
  rw [HW.out, HN.out]
  go_wp2
  go_ret
  exact ⟨rfl, HK.out⟩
theorem indexB_any (l : List Atr) (n : Nat) (hln : l.length = n) (hn : n <= 1000000) (a : Option Addr) (cap b : Nat) (s : ByteArray) (w : World) (hr : AtsAt (fun k => k < w.heap.size) w a l) (hb : w.cell? ⟨b, 0, none⟩ = some (.string s)) :
  Calls Try.prog 73 #[.slice a n cap, .func (.func 74) #[] #[.pointer (some ⟨b, 0, none⟩)]] w fun e w' => ((∃ k, ∃ h : k < l.length, e = .returned (.int .i64 (k : Int)) /\ l[k].name = s.toList /\ ∀ x ∈ l.take k, x.name ≠ s.toList) \/ (e = .returned (.int .i64 (-1)) /\ ∀ x ∈ l, x.name ≠ s.toList)) /\ Kept (fun k => k < w.heap.size) w w' := by
 have he := enter74
 have hbl : b < w.heap.size := World.block_lt_of_cell? w _ hb
 have HR : Hid (AtsAt (fun k => k < w.heap.size) w a l) := hr
 have HL : Hid (l.length = n) := hln
 have HB : Hid (w.cell? ⟨b, 0, none⟩ = some (.string s)) := hb
 have HBL : Hid (b < w.heap.size) := hbl
 clear hr hln hb hbl
 go_enter Try.func73, Try.ntmps73
 go_upto_region 2 with fail
 go_loopg [8] n (fun gh v wr => ∃ j : Nat, gh = n - j /\ j <= n /\ v = .int .i64 (j : Int) /\ (∀ x ∈ l.take j, x.name ≠ s.toList) /\ Kept (fun k => k < w.heap.size) w wr)
 case atStart => exact ⟨0, rfl, Nat.zero_le _, rfl, fun x hx => by simp at hx, Kept.refl _ _⟩
 case round =>
  obtain ⟨j, hgj, hj, rfl, hno, hK⟩ := hrel
  by_cases hlt : j < n
  ·have hl : j < l.length := by rw [HL.out]; exact hlt
   obtain ⟨g, o, rfl, hg, c0, c1⟩ := HR.out j hl
   have d0 : wr.cell? ⟨g, o + j * 2, none⟩ = some (sv l[j].name) := (hK.cell (p := ⟨g, o + j * 2, none⟩) hg).trans c0
   have d1 : wr.cell? ⟨g, o + j * 2 + 1, none⟩ = some (sv l[j].value) := (hK.cell (p := ⟨g, o + j * 2 + 1, none⟩) hg).trans c1
   have r := atr1_any ⟨l[j].name.toArray⟩ ⟨l[j].value.toArray⟩ s b wr ((hK.cell (p := ⟨b, 0, none⟩) HBL.out).trans HB.out)
   have HJ : Hid (l.take (j + 1) = l.take j ++ [l[j]]) := by rw [List.take_add_one, List.getElem?_eq_getElem hl]; rfl
   have HNO : Hid (∀ x ∈ l.take j, x.name ≠ s.toList) := hno
   have HK : Hid (Kept (fun k => k < w.heap.size) w wr) := hK
   rw [ByteArray.toList_eq] at r
   obtain ⟨q, hq⟩ : ∃ q, (l[j].name.toArray.toList == s.toList) = q := ⟨_, rfl⟩
   have hq' : (l[j].name == s.toList) = q := hq
   have HRR : Hid (Calls Try.prog 74 #[.agg #[.string ⟨l[j].name.toArray⟩, .string ⟨l[j].value.toArray⟩], .pointer (some ⟨b, 0, none⟩)] wr fun e w' => e = .returned (.bool q) /\ Kept (fun k => k < wr.heap.size) wr w') := by rw [<- hq]; exact r
   have HQ : Hid ((l[j].name == s.toList) = q) := hq'
   clear c0 c1 r hno hK hq hq'
   unfold sv at d0 d1
   go_wp2_with fail
   refine HRR.out.mono ?_
   rintro e w2 ⟨rfl, hk2⟩
   have HK2 : Hid (Kept (fun k => k < w.heap.size) w w2) := HK.out.trans (hk2.mono fun k h => Nat.lt_of_lt_of_le h HK.out.size)
   clear HRR d0 d1 hk2 he
   cases q with
   | true =>
    go_wp2
    go_ret
    exact ⟨.inl ⟨j, hl, rfl, by simpa using HQ.out, HNO.out⟩, HK2.out⟩
   | false =>
    go_wp2
    go_roundg (n - (j + 1))
    case rel =>
     refine ⟨j + 1, rfl, by omega, by go_num, fun x hx => ?_, HK2.out⟩
     rw [HJ.out] at hx
     rcases List.mem_append.1 hx with h | h
     ·exact HNO.out x h
     ·rw [List.mem_singleton.1 h]; simpa using HQ.out
    case measure => omega
  ·have hjn : n = j := by omega
   subst hjn
   have HNO : Hid (∀ x ∈ l, x.name ≠ s.toList) := fun x hx => hno x (by rw [List.take_of_length_le (by rw [HL.out]; exact Nat.le_refl _)]; exact hx)
   have HK : Hid (Kept (fun k => k < w.heap.size) w wr) := hK
   clear hno hK he
   go_wp2
   go_ret
   exact ⟨.inr ⟨rfl, HNO.out⟩, HK.out⟩
theorem atV_at {nm : List UInt8} : ∀ {l : List Atr} {k : Nat} (h : k < l.length), l[k].name = nm -> (∀ x ∈ l.take k, x.name ≠ nm) -> atV nm l = l[k].value
 | [], k, h, _, _ => absurd h (Nat.not_lt_zero _)
 | a :: r, 0, h, e, _ => by
  have e' : a.name = nm := e
  unfold atV
  rw [if_pos e']
  rfl
 | a :: r, k + 1, h, e, hno => by
  have h1 : a.name ≠ nm := hno a (by simp)
  unfold atV
  rw [if_neg h1]
  have h' : k < r.length := by simpa using h
  exact atV_at h' (by simpa using e) (fun x hx => hno x (by simp [hx]))
theorem atV_no {nm : List UInt8} : ∀ {l : List Atr}, (∀ x ∈ l, x.name ≠ nm) -> atV nm l = []
 | [], _ => rfl
 | a :: r, h => by
  unfold atV
  rw [if_neg (h a (List.mem_cons_self ..))]
  exact atV_no fun x hx => h x (List.mem_cons_of_mem _ hx)
abbrev nV (x : Nd) (ao : Option Addr) (ac : Nat) (up : Int) (ko : Option Addr) (kn kc : Nat) : Array Value := outC x.kind ⟨x.name.toArray⟩ ⟨x.data.toArray⟩ ao x.attrs.length ac up ko kn kc x.shadow x.host x.content x.fl
theorem alloc_box (X : World) (cs : Array Value) (t : TypeId) : ∃ V N, X.alloc (.cells cs t) = V /\ X.heap.size = N /\ V.heap[N]? = some (.cells cs t (0, 0)) /\ Kept (fun k => k < X.heap.size) X V /\ V.heap.size = X.heap.size + 1 :=
 ⟨_, _, rfl, rfl, heap_alloc_new X _, (Kept.refl _ X).alloc (fun _ h => h) _, by simp⟩
theorem show_any (x : Nd) (ao : Option Addr) (ac : Nat) (up : Int) (ko : Option Addr) (kn kc : Nat) (X : World) :
  Calls Try.prog 34 #[.agg (nV x ao ac up ko kn kc)] X fun e w' => e = .returned (.bool (showB x)) /\ Kept (fun k => k < X.heap.size) X w' := by
 obtain ⟨V, N, hV, hN, hb, hk, -⟩ := alloc_box X (nV x ao ac up ko kn kc)  42
 have c0 : V.cell? ⟨N, 0, none⟩ = some (.int .u8 (x.kind : Int)) := by rw [cell_block hb]; rfl
 have HK : Hid (Kept (fun k => k < X.heap.size) X V) := hk
 have HV : Hid (X.alloc (.cells (nV x ao ac up ko kn kc) 42) = V) := hV
 have HN : Hid (X.heap.size = N) := hN
 obtain ⟨q, hq⟩ : ∃ q, showB x = q := ⟨_, rfl⟩
 have HQ : Hid (showB x = q) := hq
 rw [hq]
 obtain ⟨kd, hkd⟩ : ∃ k, x.kind = k := ⟨_, rfl⟩
 have HKD : Hid (x.kind = kd) := hkd
 rw [hkd] at c0
 clear hV hN hb hk hkd hq
 go_enter Try.func34, Try.ntmps34
 go_upto_region 1 with fail
 rw [HV.out, HN.out]
 clear HV HN
 by_cases c1 : kd = 1
 ·subst c1
  go_wp2
  go_ret
  exact ⟨by rw [<- HQ.out]; unfold showB; rw [HKD.out]; rfl, HK.out⟩
 ·have e1 : ((kd : Int) == 1) = false := by simp; omega
  by_cases c2 : kd = 2
  ·subst c2
   go_wp2
   go_ret
   exact ⟨by rw [<- HQ.out]; unfold showB; rw [HKD.out]; rfl, HK.out⟩
  ·have e2 : ((kd : Int) == 2) = false := by simp; omega
   have HE : Hid (showB x = false) := by unfold showB; rw [HKD.out, decide_eq_false c1, decide_eq_false c2]; exact rfl
   clear c1 c2
   go_wp2
   go_ret
   exact ⟨by rw [<- HQ.out, HE.out]; rfl, HK.out⟩
theorem isSl_any (x : Nd) (ao : Option Addr) (ac : Nat) (up : Int) (ko : Option Addr) (kn kc : Nat) (X : World) :
  Calls Try.prog 58 #[.agg (nV x ao ac up ko kn kc)] X fun e w' => e = .returned (.bool (isSl x)) /\ Kept (fun k => k < X.heap.size) X w' := by
 obtain ⟨V, N, hV, hN, hb, hk, -⟩ := alloc_box X (nV x ao ac up ko kn kc)  42
 have c0 : V.cell? ⟨N, 0, none⟩ = some (.int .u8 (x.kind : Int)) := by rw [cell_block hb]; rfl
 have c1 : V.cell? ⟨N, 1, none⟩ = some (.string ⟨x.name.toArray⟩) := by rw [cell_block hb]; rfl
 have HK : Hid (Kept (fun k => k < X.heap.size) X V) := hk
 have HV : Hid (X.alloc (.cells (nV x ao ac up ko kn kc) 42) = V) := hV
 have HN : Hid (X.heap.size = N) := hN
 obtain ⟨q, hq⟩ : ∃ q, isSl x = q := ⟨_, rfl⟩
 have HQ : Hid (isSl x = q) := hq
 rw [hq]
 obtain ⟨kd, hkd⟩ : ∃ k, x.kind = k := ⟨_, rfl⟩
 have HKD : Hid (x.kind = kd) := hkd
 obtain ⟨s, hs⟩ : ∃ s, (⟨x.name.toArray⟩ : ByteArray) = s := ⟨_, rfl⟩
 have hsl : x.name = s.toList := by rw [<- hs, ByteArray.toList_eq]
 obtain ⟨b, hb2⟩ : ∃ b, decide (x.name = slotN) = b := ⟨_, rfl⟩
 have HB2 : Hid (decide (x.name = slotN) = b) := hb2
 have hbe : (s.toList == [115, 108, 111, 116]) = b := by
  rw [<- hb2, <- hsl]
  by_cases c : x.name = slotN
  ·rw [decide_eq_true c, c]; rfl
  ·rw [decide_eq_false c]; simpa using c
 rw [hkd] at c0
 rw [hs] at c1
 clear hV hN hb hk hkd hs hsl hb2 hq
 go_enter Try.func58, Try.ntmps58
 go_upto_region 1 with fail
 rw [HV.out, HN.out]
 clear HV HN
 by_cases k1 : kd = 1
 ·subst k1
  have HE : Hid (isSl x = b) := by unfold isSl; rw [HKD.out, HB2.out, decide_eq_true rfl, Bool.true_and]; exact rfl
  cases b with
  | true =>
   go_wp2
   go_ret
   exact ⟨by rw [<- HQ.out, HE.out]; first | rfl | simp_all, HK.out⟩
  | false =>
   go_wp2
   go_ret
   exact ⟨by rw [<- HQ.out, HE.out]; first | rfl | simp_all, HK.out⟩
 ·have e1 : ((kd : Int) == 1) = false := by simp; omega
  have HE : Hid (isSl x = false) := by unfold isSl; rw [HKD.out, decide_eq_false k1, Bool.false_and]; exact rfl
  clear k1 hbe
  go_wp2
  go_ret
  exact ⟨by rw [<- HQ.out, HE.out]; rfl, HK.out⟩
theorem attr_any (x : Nd) (ao : Option Addr) (ac : Nat) (up : Int) (ko : Option Addr) (kn kc : Nat) (s : ByteArray) (X : World) (hl : x.attrs.length <= 1000) (ha : AtsAt (fun k => k < X.heap.size) X ao x.attrs) :
  Calls Try.prog 38 #[.agg (nV x ao ac up ko kn kc), .string s] X fun e w' => e = .returned (sv (atV s.toList x.attrs)) /\ Kept (fun k => k < X.heap.size) X w' := by
 obtain ⟨V, N, hV, hN, hb, hk, hsV⟩ := alloc_box X (nV x ao ac up ko kn kc)  42
 obtain ⟨V2, N2, hV2, hN2, hb2, hk2, -⟩ := alloc_box V #[.string s]  9
 have hNV : N < V.heap.size := lt_block hb
 have c3 : V2.cell? ⟨N, 3, none⟩ = some (.slice ao x.attrs.length ac) := (hk2.cell (p := ⟨N, 3, none⟩) hNV).trans (by rw [cell_block hb]; rfl)
 have d0 : V2.cell? ⟨N2, 0, none⟩ = some (.string s) := by rw [cell_block hb2]; rfl
 have hkk : Kept (fun k => k < X.heap.size) X V2 := hk.trans (hk2.mono fun k h => Nat.lt_of_lt_of_le h hk.size)
 have haV : AtsAt (fun k => k < V2.heap.size) V2 ao x.attrs := ha.kept hkk fun k h => Nat.lt_of_lt_of_le h hkk.size
 obtain ⟨n, hn⟩ : ∃ n, x.attrs.length = n := ⟨_, rfl⟩
 rw [hn] at c3
 have r := indexB_any x.attrs n hn (by omega) ao ac N2 s V2 haV d0
 have HK : Hid (Kept (fun k => k < X.heap.size) X V2) := hkk
 have HV : Hid (X.alloc (.cells (nV x ao ac up ko kn kc) 42) = V) := hV
 have HN : Hid (X.heap.size = N) := hN
 have HV2 : Hid (V.alloc (.cells #[.string s] 9) = V2) := hV2
 have HN2 : Hid (N + 1 = N2) := by rw [<- hN2, hsV, hN]; exact rfl
 have HA : Hid (AtsAt (fun k => k < V2.heap.size) V2 ao x.attrs) := haV
 have HL : Hid (N < V2.heap.size) := Nat.lt_of_lt_of_le hNV hk2.size
 have HNN : Hid (x.attrs.length = n) := hn
 clear hV hN hb hk hV2 hN2 hb2 hk2 hkk haV ha hn hNV hsV
 go_enter Try.func38, Try.ntmps38
 go_upto_region 1 with fail
 rw [HV.out, HN.out, HV2.out, HN2.out]
 clear HV HN HV2 HN2
 go_wp2_with fail
 refine r.mono ?_
 rintro e w2 ⟨hor, hk2⟩
 have HK2 : Hid (Kept (fun k => k < X.heap.size) X w2) := HK.out.trans (hk2.mono fun k h => Nat.lt_of_lt_of_le h HK.out.size)
 rcases hor with ⟨k, hkl, rfl, hnm, hno⟩ | ⟨rfl, hno⟩
 ·have c3' : w2.cell? ⟨N, 3, none⟩ = some (.slice ao n ac) := (hk2.cell (p := ⟨N, 3, none⟩) HL.out).trans c3
  obtain ⟨g, o, rfl, hg, -, a1⟩ := HA.out k hkl
  have a1' : w2.cell? ⟨g, o + k * 2 + 1, none⟩ = some (sv x.attrs[k].value) := (hk2.cell (p := ⟨g, o + k * 2 + 1, none⟩) hg).trans a1
  have HE : Hid (atV s.toList x.attrs = x.attrs[k].value) := atV_at hkl hnm hno
  obtain ⟨u, hu⟩ : ∃ u, x.attrs[k].value = u := ⟨_, rfl⟩
  rw [hu] at a1'
  have HE2 : Hid (atV s.toList x.attrs = u) := HE.out.trans hu
  have hkn : k < n := by rw [<- HNN.out]; exact hkl
  have e0 : decide ((k : Int) < 0) = false := decide_eq_false (by omega)
  clear r hk2 c3 d0 a1 hno hnm hu HE
  go_wp2
  go_ret
  exact ⟨by rw [HE2.out]; rfl, HK2.out⟩
 ·have HE2 : Hid (atV s.toList x.attrs = []) := atV_no hno
  clear r hk2 c3 d0 hno
  go_wp2
  go_ret
  exact ⟨by rw [HE2.out]; rfl, HK2.out⟩
end
section
open Go.RowKit
section
variable {M : Dm} {R G : Nat -> List Nat} {rk : Nat -> Nat}
theorem Good.kid (h : Good M R rk) {i k : Nat} (hi : i < M.n) (hk : k ∈ R i) : k < M.n /\ (M.pl k).up = (i : Int) /\ rk i < rk k := by
 have hl := h.wf.lt i hi k hk
 have hu := h.wf.up hi hk
 refine ⟨hl, hu, ?_⟩
 have hp : parI M k = (i : Int) := by unfold parI; rw [if_neg (by omega)]; exact hu
 rcases h.acy k hl with e | ⟨m, _, e, hr⟩
 ·omega
 ·have : m = i := by omega
  exact this ▸ hr
theorem Good.falls (h : Good M R rk) : Falls M.n R rk := fun i hi k hk => ⟨(h.kid hi hk).1, (h.kid hi hk).2.2⟩
theorem Good.rk_up (h : Good M R rk) {k u : Nat} (hk : k < M.n) (hu : (M.pl k).up = (u : Int)) : u < M.n /\ rk u < rk k := by
 rcases h.acy k hk with e | ⟨m, hm, e, hr⟩
 ·unfold parI at e; rw [if_neg (by omega)] at e; omega
 ·unfold parI at e
  rw [if_neg (by omega)] at e
  have : m = u := by omega
  exact this ▸ ⟨hm, hr⟩
def fwd (M : Dm) (R : Nat -> List Nat) (i : Nat) : List Nat := if (M.nd i).shadow = -1 then R i else (M.nd i).shadow.toNat :: R i
theorem Inv.shadow (h : Inv M R G rk) {i s : Nat} (hi : i < M.n) (hs : (M.nd i).shadow = (s : Int)) : s < M.n /\ (M.nd s).kind = 5 /\ (M.nd s).host = (i : Int) /\ (M.pl s).up = -1 /\ rk i < rk s /\ (M.nd i).kind = 1 := by
 rcases h.core.shad i hi with e | ⟨k, hk, e, h1, h2, h3⟩
 ·omega
 ·have : k = s := by omega
  subst this
  have hup : (M.pl k).up = -1 := by
   rcases h.core.host k hk with ⟨e', _⟩ | ⟨u, _, _, hu, _⟩
   ·omega
   ·exact hu
  refine ⟨hk, h2, h3, hup, ?_, h1⟩
  rcases h.good.acy k hk with e' | ⟨m, _, e', hr⟩
  ·unfold parI at e'; rw [if_pos hup] at e'; omega
  ·unfold parI at e'
   rw [if_pos hup] at e'
   have : m = i := by omega
   exact this ▸ hr
theorem Inv.falls (h : Inv M R G rk) : Falls M.n (fwd M R) rk := fun i hi k hk => by
 unfold fwd at hk
 by_cases c : (M.nd i).shadow = -1
 ·rw [if_pos c] at hk
  exact h.good.falls i hi k hk
 ·rw [if_neg c] at hk
  rcases List.mem_cons.1 hk with rfl | hk
  ·rcases h.core.shad i hi with e | ⟨s, hs, e, _⟩
   ·exact absurd e c
   ·rw [e, Int.toNat_natCast]
    have := h.shadow hi e
    exact ⟨this.1, this.2.2.2.2.1⟩
  ·exact h.good.falls i hi k hk
theorem Inv.host (h : Inv M R G rk) {s : Nat} (hs : s < M.n) (hk : (M.nd s).kind = 5) : ∃ i : Nat, i < M.n /\ (M.nd s).host = (i : Int) /\ (M.nd i).shadow = (s : Int) /\ rk i < rk s /\ (M.pl s).up = -1 := by
 rcases h.core.host s hs with ⟨_, e⟩ | ⟨i, hi, e, hu, _, h1⟩
 ·exact absurd hk e
 ·have hsh : (M.nd i).shadow = (s : Int) := by
   rcases h1 with ⟨_, h1⟩ | ⟨h1, _⟩
   ·exact h1
   ·omega
  exact ⟨i, hi, e, hsh, (h.shadow hi hsh).2.2.2.2.1, hu⟩
theorem Good.top (h : Good M R rk) : ∀ (f i : Nat), rk i < f -> i < M.n -> ∃ t, t < M.n /\ TopOf M i t /\ (M.pl t).up = -1 /\ rk t <= rk i
 | 0, i, hf, _ => absurd hf (Nat.not_lt_zero _)
 | f + 1, i, hf, hi => by
  rcases h.wf.inn i hi with h0 | ⟨u, hu, e, _⟩
  ·exact ⟨i, hi, .here h0, h0, Nat.le_refl _⟩
  ·have hr := (h.rk_up hi e).2
   obtain ⟨t, h1, h2, h3, h4⟩ := Good.top h f u (by omega) hu
   exact ⟨t, h1, .up e h2, h3, by omega⟩
inductive TopT (M : Dm) : Nat -> Nat -> Prop
 | here {i t : Nat} : TopOf M i t -> (M.nd t).kind ≠ 5 -> TopT M i t
 | up {i r h t : Nat} : TopOf M i r -> (M.nd r).kind = 5 -> (M.nd r).host = (h : Int) -> TopT M h t -> TopT M i t
theorem TopT.one {i t u : Nat} (h : TopT M i t) : TopT M i u -> t = u := by
 induction h with
 | here h0 k0 =>
  intro h
  cases h with
  | here h1 k1 => exact h0.one h1
  | up h1 k1 _ _ => rw [h0.one h1] at k0; exact absurd k1 k0
 | up h0 k0 e _ ih =>
  intro h
  cases h with
  | here h1 k1 => rw [h0.one h1] at k0; exact absurd k0 k1
  | up h1 k1 e' h' =>
   have := h0.one h1
   subst this
   have := e.symm.trans e'
   injection this with this
   subst this
   exact ih h'
theorem Inv.topT (h : Inv M R G rk) : ∀ (f i : Nat), rk i < f -> i < M.n -> ∃ t, t < M.n /\ TopT M i t /\ (M.pl t).up = -1 /\ rk t <= rk i /\ (M.nd t).kind ≠ 5
 | 0, i, hf, _ => absurd hf (Nat.not_lt_zero _)
 | f + 1, i, hf, hi => by
  obtain ⟨r, hr, hT, hu, hle⟩ := h.good.top (rk i + 1) i (Nat.lt_succ_self _) hi
  by_cases c : (M.nd r).kind = 5
  ·obtain ⟨o, ho, e, _, hlt, _⟩ := h.host hr c
   obtain ⟨t, h1, h2, h3, h4, h5⟩ := Inv.topT h f o (by omega) ho
   exact ⟨t, h1, .up hT c e h2, h3, by omega, h5⟩
  ·exact ⟨r, hr, .here hT c, hu, hle, c⟩
end
end
section
open Go.RowKit
theorem of_any (K : Nat -> Prop) (p i : Nat) (M : Dm) (R : Nat -> List Nat) (rk : Nat -> Nat) (w : World) (h : DX K w p M) (hG : Good M R rk) (hi : i < M.n) (hn : M.n <= 1000000) :
  Calls Try.prog 71 #[.pointer (some ⟨p, 0, none⟩), .int .i64 (i : Int)] w fun e w' => ∃ z : Int, OfOf M i z /\ e = .returned (.int .i64 z) /\ Kept (fun k => k < w.heap.size) w w' := by
 have r1 := oroot_any K p i M R rk w h hG hi hn
 have HG : Hid (Good M R rk) := hG
 have HX : Hid (DX K w p M) := h
 clear h hG
 go_enter Try.func71, Try.ntmps71
 go_wp2_with fail
 refine r1.mono ?_
 rintro e w1 ⟨t, ht, hT, rfl, hK1⟩
 have r2 := node_any K p t M R w1 (HX.out.kept hK1) HG.out.wf ht hn HG.out.few
 have HT : Hid (TopOf M i t) := hT
 have HK1 : Hid (Kept (fun k => k < w.heap.size) w w1) := hK1
 clear r1 hT hK1
 go_upto_region 2 with fail
 go_wp2_with fail
 refine r2.mono ?_
 rintro e v1 ⟨ao1, ac1, ko1, kc1, rfl, -, -, hK2⟩
 have HK2 : Hid (∀ o, Kept (fun k => k < w.heap.size) w (v1.alloc o)) := fun o => (HK1.out.trans (hK2.mono fun k h => Nat.lt_of_lt_of_le h HK1.out.size)).alloc (fun k h => Nat.lt_of_lt_of_le h (Nat.le_trans HK1.out.size hK2.size)) o
 obtain ⟨kd, hkd⟩ : ∃ kd, (M.nd t).kind = kd := ⟨_, rfl⟩
 have HKD : Hid ((M.nd t).kind = kd) := hkd
 rw [hkd]
 clear r2 hK2 hkd
 by_cases c : kd = 5
 ·subst c
  go_wp2
  go_ret
  exact ⟨_, .yes HT.out HKD.out, rfl, HK2.out _⟩
 ·have e1 : ((kd : Int) == 5) = false := by simp; omega
  have e2 : ¬ (kd : Int) = 5 := by omega
  go_wp2
  go_ret
  exact ⟨_, .no HT.out (by rw [HKD.out]; exact c), rfl, HK2.out _⟩
end
end Go.Proofs.Ytljnjdckhkglfaa
