/-
  A document of elements side by side (plain).
  Leaves of Doc.Give: Slot, mayShow, the two questions, IndexFunc, ContainsFunc, mayGive where all may be given.
  Doc.Give of nodes that may be given.
-/
import Derived.Test.YthhoicmfmfeehaaGreatZ19
import Derived.Test.YthhoicmfmfeehaaGreatZ09
import Derived.Laws.EntriesVeiled
import Derived.Test.YthhoicmfmfeehaaGreatZ13
namespace Go.Proofs.YthhoicmfmfeehaaGreat
open Go.RowKit
set_option linter.unusedVariables false

theorem insB_end (l : List Nat) (i : Nat) : insB l i (-1) = l ++ [i] := by
  unfold insB
  have : ∀ l : List Nat, l.takeWhile (fun k : Nat => decide ((k : Int) ≠ -1)) = l ∧ l.dropWhile (fun k : Nat => decide ((k : Int) ≠ -1)) = [] := by
    intro l
    induction l with
    | nil => exact ⟨rfl, rfl⟩
    | cons x r ih =>
      have e : decide ((x : Int) ≠ -1) = true := decide_eq_true (by omega)
      rw [List.takeWhile_cons, List.dropWhile_cons, e, if_pos rfl, if_pos rfl, ih.1]
      exact ⟨rfl, ih.2⟩
  rw [(this l).1, (this l).2]
theorem putR_free {L : Nat → Lk} {R : Nat → List Nat} {up i : Nat} (h : (L i).up = -1) : putR L R up i (-1) = updR R up (R up ++ [i]) := by
  unfold YthhoicmfmfeehaaGreat.putR outR
  rw [if_pos h, insB_end]
/-- Nodes: the Fragment 0, and elements. -/
structure Divs (M : Dm) (n : Nat) : Prop where
  len : M.n = n + 1
  lim : M.limit = 300
  zero : M.nd 0 = frag0.new
  divs : ∀ k, 0 < k → k < n + 1 → M.nd k = divN.new
theorem Divs.setP {M : Dm} {n : Nat} (h : Divs M n) (L : Nat → Lk) : Divs (M.setP L) n := ⟨h.len, h.lim, h.zero, h.divs⟩
theorem Divs.add {M : Dm} {n : Nat} (h : Divs M n) : Divs (M.add divN) (n + 1) := by
  refine ⟨by show M.n + 1 = _; rw [h.len], h.lim, ?_, fun k h0 hk => ?_⟩
  · show (if 0 = M.n then divN.new else M.nd 0) = _
    rw [if_neg (by rw [h.len]; omega)]; exact h.zero
  · show (if k = M.n then divN.new else M.nd k) = _
    by_cases c : k = M.n
    · rw [if_pos c]
    · rw [if_neg c]; exact h.divs k h0 (by rw [h.len] at c; omega)
theorem Divs.new : Divs (Dm.new 300) 0 := ⟨rfl, rfl, rfl, fun k h0 hk => by omega⟩
theorem hold_div : holdB divN.new = true := by kernel_rfl
theorem hold_frag : holdB frag0.new = true := by kernel_rfl
theorem Divs.hold {M : Dm} {n : Nat} (h : Divs M n) {k : Nat} (hk : k < n + 1) : holdB (M.nd k) = true := by
  by_cases c : k = 0
  · subst c; rw [h.zero]; exact hold_frag
  · rw [h.divs k (by omega) hk]; exact hold_div
theorem Divs.move {M : Dm} {n : Nat} (h : Divs M n) {k : Nat} (h0 : 0 < k) (hk : k < n + 1) : moveB M k = true := by
  unfold moveB
  rw [h.divs k h0 hk, decide_eq_true (show k ≠ 0 by omega)]
  rfl
theorem Divs.kind {M : Dm} {n : Nat} (h : Divs M n) {k : Nat} (h0 : 0 < k) (hk : k < n + 1) : (M.nd k).kind ≠ 4 := by
  rw [h.divs k h0 hk]
  show (1 : Nat) ≠ 4
  decide
/-- The rows: so many in the Fragment, none in them. -/
structure Side (M : Dm) (R : Nat → List Nat) (n : Nat) : Prop where
  row : R 0 = (List.range n).map (· + 1)
  none : ∀ k, 0 < k → R k = []
  top : (M.pl 0).up = -1
theorem Side.next {M : Dm} {R : Nat → List Nat} {n : Nat} (hD : Divs M n) (hS : Side M R n) (x : Nd) :
    Side ((M.add x).setP (putL (M.add x).pl 0 (n + 1) (-1))) (putR (M.add x).pl (updR R M.n []) 0 (n + 1) (-1)) (n + 1) := by
  have hfree : ((M.add x).pl (n + 1)).up = -1 := by
    show (updL M.pl M.n Lk.nil (n + 1)).up = -1
    rw [hD.len, updL_same]; rfl
  rw [putR_free hfree]
  refine ⟨?_, fun k hk => ?_, ?_⟩
  · rw [updR_same, updR_ne _ _ (by rw [hD.len]; omega), hS.row, List.range_succ, List.map_append]
    rfl
  · rw [updR_ne _ _ (by omega)]
    by_cases c : k = M.n
    · rw [c, updR_same]
    · rw [updR_ne _ _ c]; exact hS.none k hk
  · show (putL (M.add x).pl 0 (n + 1) (-1) 0).up = -1
    rw [put_up (by omega)]
    show (updL M.pl M.n Lk.nil 0).up = -1
    rw [updL_ne _ _ (by rw [hD.len]; omega)]
    exact hS.top


end Go.Proofs.YthhoicmfmfeehaaGreat

namespace Go.Proofs.YthhoicmfmfeehaaGreat
open Go.RowKit
set_option linter.unusedVariables false

set_option maxRecDepth 20000 in
theorem slot_in (K : Nat → Prop) (p i : Nat) (S : Dm) (w : World) (h : DX K w p S) (hi : i < S.n) (hn : S.n ≤ 1000000000) :
    Calls Tryz.prog 55 #[.pointer (some ⟨p, 0, none⟩), .int .i64 (i : Int)] w fun e w' => e = .returned (.int .i64 (S.gf i).up) ∧ w' = w := by
  obtain ⟨ga, cap, hY⟩ := h
  obtain ⟨g, rfl, -, -, -⟩ := hY.at (by omega)
  have r := at_yes p g S.n cap i w hY.c1 hi hn
  obtain ⟨c0, -, -, -, -⟩ := hY.gcell hi
  clear hY
  go_enter Tryz.func55, Tryz.ntmps55
  go_wp2_with (go_at_call 57; refine r.mono ?_; rintro e w2 ⟨rfl, hw2⟩; replace hw2 := hw2.symm; subst hw2)
  go_ret
  exact ⟨rfl, rfl⟩
def showB (x : Nd) : Bool := decide (x.kind = 1) || decide (x.kind = 2)
set_option maxRecDepth 20000 in
theorem mayShow_any (b o : Nat) (x : Nd) (w : World) (h0 : w.cell? ⟨b, o, none⟩ = some (.int .u8 (x.kind : Int))) :
    Calls Tryz.prog 102 #[.pointer (some ⟨b, o, none⟩)] w fun e w' => e = .returned (.bool (showB x)) ∧ w' = w := by
  unfold showB
  obtain ⟨kd, hk⟩ : ∃ k, x.kind = k := ⟨_, rfl⟩
  rw [hk] at h0 ⊢
  clear hk
  by_cases c1 : kd = 1
  · subst c1
    go_enter Tryz.func102, Tryz.ntmps102
    go_wp2
    go_ret
    exact ⟨rfl, rfl⟩
  · have e1 : ((kd : Int) == 1) = false := by
      have : (kd : Int) ≠ 1 := by omega
      simpa using this
    rw [decide_eq_false c1]
    by_cases c2 : kd = 2
    · subst c2
      go_enter Tryz.func102, Tryz.ntmps102
      go_wp2
      go_ret
      exact ⟨rfl, rfl⟩
    · have e2 : ((kd : Int) == 2) = false := by
        have : (kd : Int) ≠ 2 := by omega
        simpa using this
      rw [decide_eq_false c2]
      clear c1 c2
      go_enter Tryz.func102, Tryz.ntmps102
      go_wp2
      go_ret
      exact ⟨rfl, rfl⟩
set_option maxRecDepth 20000 in
/-- missing: a node that is there. -/
theorem miss_in (p b g n cap i : Nat) (w : World) (hb : w.cell? ⟨b, 0, none⟩ = some (.pointer (some ⟨p, 0, none⟩))) (hc : w.cell? ⟨p, 1, none⟩ = some (.slice (some ⟨g, 0, none⟩) n cap)) (hi : i < n) (hn : n ≤ 1000000000) :
    Calls Tryz.prog 100 #[.int .i64 (i : Int), .pointer (some ⟨b, 0, none⟩)] w fun e w' => e = .returned (.bool false) ∧ w' = w := by
  have r := at_yes p g n cap i w hc hi hn
  go_enter Tryz.func100, Tryz.ntmps100
  go_wp2_with (go_at_call 57; refine r.mono ?_; rintro e w2 ⟨rfl, hw2⟩; replace hw2 := hw2.symm; subst hw2)
  go_ret
  exact ⟨rfl, rfl⟩
set_option maxRecDepth 20000 in
/-- hidden: a node that may be shown. -/
theorem hide_in (p b g n cap i : Nat) (x : Nd) (w : World) (hb : w.cell? ⟨b, 0, none⟩ = some (.pointer (some ⟨p, 0, none⟩))) (hc : w.cell? ⟨p, 1, none⟩ = some (.slice (some ⟨g, 0, none⟩) n cap)) (h0 : w.cell? ⟨g, i * 22, none⟩ = some (.int .u8 (x.kind : Int))) (hi : i < n) (hn : n ≤ 1000000000) :
    Calls Tryz.prog 101 #[.int .i64 (i : Int), .pointer (some ⟨b, 0, none⟩)] w fun e w' => e = .returned (.bool (!showB x)) ∧ w' = w := by
  have r := mayShow_any g (i * 22) x w h0
  obtain ⟨q, hq⟩ : ∃ q, showB x = q := ⟨_, rfl⟩
  rw [hq] at r ⊢
  clear hq
  go_enter Tryz.func101, Tryz.ntmps101
  go_wp2_with (go_at_call 102; refine r.mono ?_; rintro e w2 ⟨rfl, hw2⟩; replace hw2 := hw2.symm; subst hw2)
  go_ret
  exact ⟨rfl, rfl⟩
/-- A func value that answers no to each of a list. -/
def Noes (w : World) (v : Value) (l : List Nat) : Prop :=
  ∃ f caps, v = .func (.func f) #[] caps ∧ (∀ args X, (callFunc f args).run Tryz.prog X = .ok (.enter f args) X) ∧ ∀ i ∈ l, Calls Tryz.prog f (#[.int .i64 (i : Int)] ++ caps) w fun e Y => e = .returned (.bool false) ∧ Y = w
/-- A row of numbers of nodes. -/
def RowI (w : World) (a : Option Addr) (l : List Nat) : Prop := ∀ j (h : j < l.length), ∃ g o, a = some ⟨g, o, none⟩ ∧ w.cell? ⟨g, o + j, none⟩ = some (.int .i64 (l[j] : Int))
set_option maxRecDepth 20000 in
set_option maxHeartbeats 1000000 in
theorem indexF_no (l : List Nat) (n : Nat) (hln : l.length = n) (hn : n ≤ 1000000) (a : Option Addr) (cap : Nat) (v : Value) (w : World) (hr : RowI w a l) (hv : Noes w v l) :
    Calls Tryz.prog 114 #[.slice a n cap, v] w fun e w' => e = .returned (.int .i64 (-1)) ∧ w' = w := by
  obtain ⟨f, caps, rfl, he, hc⟩ := hv
  have HR : Hid (RowI w a l) := hr
  have HC : Hid (∀ i ∈ l, Calls Tryz.prog f (#[.int .i64 (i : Int)] ++ caps) w fun e Y => e = .returned (.bool false) ∧ Y = w) := hc
  have HL : Hid (l.length = n) := hln
  clear hr hc hln
  go_enter Tryz.func114, Tryz.ntmps114
  go_upto_region 2 with fail
  go_loopg [8] n (fun gh s wr => ∃ j : Nat, gh = n - j ∧ j ≤ n ∧ s = .int .i64 (j : Int) ∧ wr = w)
  case atStart => exact ⟨0, rfl, Nat.zero_le _, rfl, rfl⟩
  case round =>
    obtain ⟨j, hgj, hj, rfl, rfl⟩ := hrel
    by_cases hlt : j < n
    · have hl : j < l.length := by rw [HL.out]; exact hlt
      obtain ⟨g, o, rfl, d⟩ := HR.out j hl
      have r := HC.out l[j] (List.getElem_mem hl)
      obtain ⟨q, hq⟩ : ∃ q, l[j] = q := ⟨_, rfl⟩
      rw [hq] at d r
      have HRR : Hid (Calls Tryz.prog f (#[.int .i64 (q : Int)] ++ caps) wr fun e Y => e = .returned (.bool false) ∧ Y = wr) := r
      clear hq r
      go_wp2_with fail
      refine HRR.out.mono ?_
      rintro e w2 ⟨rfl, hw2⟩
      replace hw2 := hw2.symm
      subst hw2
      clear HRR d
      go_wp2
      go_roundg (n - (j + 1))
      case rel => exact ⟨j + 1, rfl, by omega, by go_num, rfl⟩
      case measure => omega
    · have hjn : j = n := by omega
      subst hjn
      clear he
      go_wp2
      go_ret
      exact ⟨rfl, rfl⟩
set_option maxRecDepth 20000 in
theorem contains_no (l : List Nat) (n : Nat) (hln : l.length = n) (hn : n ≤ 1000000) (a : Option Addr) (cap : Nat) (v : Value) (w : World) (hr : RowI w a l) (hv : Noes w v l) :
    Calls Tryz.prog 103 #[.slice a n cap, v] w fun e w' => e = .returned (.bool false) ∧ w' = w := by
  have r := indexF_no l n hln hn a cap v w hr hv
  clear hr hv hln
  go_enter Tryz.func103, Tryz.ntmps103
  go_wp2_with (go_at_call 114; refine r.mono ?_; rintro e w2 ⟨rfl, hw2⟩; replace hw2 := hw2.symm; subst hw2)
  go_ret
  exact ⟨rfl, rfl⟩
end Go.Proofs.YthhoicmfmfeehaaGreat

namespace Go.Proofs.YthhoicmfmfeehaaGreat
open Go.RowKit
set_option linter.unusedVariables false

theorem enter100 (args : Array Value) (X : World) : (callFunc 100 args).run Tryz.prog X = .ok (.enter 100 args) X := entersE Tryz.func100 (by kernel_rfl) (c := _) rfl args X
theorem enter101 (args : Array Value) (X : World) : (callFunc 101 args).run Tryz.prog X = .ok (.enter 101 args) X := entersE Tryz.func101 (by kernel_rfl) (c := _) rfl args X
abbrev slotN : List UInt8 := [115, 108, 111, 116]
theorem slotB_list : (⟨#[115, 108, 111, 116]⟩ : ByteArray).toList = slotN := by rw [ByteArray.toList_eq]
/-- All of these may be given to that slot. -/
structure GiveOk (S : Dm) (slot : Nat) (l : List Nat) : Prop where
  slt : slot < S.n
  kind : (S.nd slot).kind = 1
  name : (S.nd slot).name = slotN
  all : ∀ i ∈ l, i < S.n ∧ showB (S.nd i) = true ∧ i ≠ slot
  few : l.length ≤ 200

set_option maxRecDepth 20000 in
set_option maxHeartbeats 1000000 in
theorem mayGive_ok (K : Nat → Prop) (p slot : Nat) (l : List Nat) (n : Nat) (hln : l.length = n) (a : Option Addr) (cap : Nat) (S : Dm) (w : World) (h : DX K w p S) (hG : GiveOk S slot l) (hn : S.n ≤ 1000000) (hr : RowI w a l) (hra : ∀ g o, a = some ⟨g, o, none⟩ → l ≠ [] → g < w.heap.size) :
    Calls Tryz.prog 74 #[.pointer (some ⟨p, 0, none⟩), .int .i64 (slot : Int), .slice a n cap] w fun e w' => e = .returned (.int .u16 0) ∧ Kept (fun k => k < w.heap.size) w w' := by
  obtain ⟨ga, gc, hY⟩ := h
  obtain ⟨g, rfl, -, -, -⟩ := hY.at (by have := hG.slt; omega)
  obtain ⟨V, hV⟩ : ∃ V, w.alloc (.cells #[.pointer (some ⟨p, 0, none⟩)] 25) = V := ⟨_, rfl⟩
  obtain ⟨b, hb⟩ : ∃ b, w.heap.size = b := ⟨_, rfl⟩
  have kV : Kept (fun k => k < w.heap.size) w V := by rw [← hV]; exact (Kept.refl _ w).alloc (fun _ h => h) _
  have hbV : V.cell? ⟨b, 0, none⟩ = some (.pointer (some ⟨p, 0, none⟩)) := by
    rw [← hV, ← hb, cell_block (heap_alloc_new w _)]; rfl
  have hYV := hY.kept kV
  have c1 := hYV.c1
  obtain ⟨aa, ac, hc, -⟩ := hYV.cell hG.slt
  have s0 : V.cell? ⟨g, slot * 22, none⟩ = some (.int .u8 ((S.nd slot).kind : Int)) := hc 0 _ rfl
  have s1 : V.cell? ⟨g, slot * 22 + 1, none⟩ = some (sv (S.nd slot).name) := hc 1 _ rfl
  have re := isElement_any g (slot * 22) (S.nd slot).kind ⟨(S.nd slot).name.toArray⟩ ⟨#[115, 108, 111, 116]⟩ V s0 s1
  have eT : (decide ((S.nd slot).kind = 1) && ByteArray.toList ⟨(S.nd slot).name.toArray⟩ == ByteArray.toList ⟨#[115, 108, 111, 116]⟩) = true := by
    rw [hG.kind, slotB_list, hG.name, ByteArray.toList_eq]; rfl
  rw [eT] at re
  have hrV : RowI V a l := fun j hj => by
    obtain ⟨x, o, e, d⟩ := hr j hj
    exact ⟨x, o, e, (kV.cell (p := ⟨x, o + j, none⟩) (hra x o e (fun e' => by rw [e'] at hj; cases hj))).trans d⟩
  have r0 := miss_in p b g S.n gc slot V hbV c1 hG.slt (by omega)
  have n1 : Noes V (.func (.func 100) #[] #[.pointer (some ⟨b, 0, none⟩)]) l := ⟨100, _, rfl, enter100, fun i hi => miss_in p b g S.n gc i V hbV c1 (hG.all i hi).1 (by omega)⟩
  have n2 : Noes V (.func (.func 101) #[] #[.pointer (some ⟨b, 0, none⟩)]) l := ⟨101, _, rfl, enter101, fun i hi => by
    obtain ⟨aa, ac, hc, -⟩ := hYV.cell (hG.all i hi).1
    have := hide_in p b g S.n gc i (S.nd i) V hbV c1 (hc 0 _ rfl) (hG.all i hi).1 (by omega)
    rw [(hG.all i hi).2.1] at this
    exact this⟩
  have q1 := contains_no l n hln (by have := hG.few; omega) a cap _ V hrV n1
  have q2 := contains_no l n hln (by have := hG.few; omega) a cap _ V hrV n2
  have hle : decide ((n : Int) > 200) = false := decide_eq_false (by have := hG.few; omega)
  have hsl := hG.slt
  obtain ⟨m, hm⟩ : ∃ m, S.n = m := ⟨_, rfl⟩
  rw [hm] at c1 hsl hn
  have HV : Hid (w.alloc (.cells #[.pointer (some ⟨p, 0, none⟩)] 25) = V) := hV
  have HB : Hid (w.heap.size = b) := hb
  have HK : Hid (Kept (fun k => k < w.heap.size) w V) := kV
  clear hY hV hb kV hYV hc s0 s1 eT hrV n1 n2 hr hra hln hm hG
  go_enter Tryz.func74, Tryz.ntmps74
  go_upto_region 1 with fail
  rw [HV.out, HB.out]
  clear HV HB
  go_wp2_with (first | (go_at_call 100; with_reducible refine r0.mono ?_; rintro e w2 ⟨rfl, hw2⟩; replace hw2 := hw2.symm; subst hw2) | (go_at_call 103; with_reducible refine q1.mono ?_; rintro e w2 ⟨rfl, hw2⟩; replace hw2 := hw2.symm; subst hw2) | (go_at_call 103; with_reducible refine q2.mono ?_; rintro e w2 ⟨rfl, hw2⟩; replace hw2 := hw2.symm; subst hw2) | (go_at_call 61; refine re.mono ?_; rintro e w2 ⟨rfl, hw2⟩; replace hw2 := hw2.symm; subst hw2))
  go_ret
  exact ⟨rfl, HK.out⟩

def outsL (L : Nat → Lk) : List Nat → Nat → Lk
  | [] => L
  | q :: r => outsL (outL L q) r
def addsL (L : Nat → Lk) (slot : Nat) : List Nat → Nat → Lk
  | [] => L
  | i :: r => addsL (if (L i).up = (slot : Int) then L else putL L slot i (-1)) slot r
theorem outsL_append (L : Nat → Lk) (a b : List Nat) : outsL L (a ++ b) = outsL (outsL L a) b := by
  induction a generalizing L with
  | nil => rfl
  | cons x r ih => exact ih _
theorem addsL_append (L : Nat → Lk) (slot : Nat) (a b : List Nat) : addsL L slot (a ++ b) = addsL (addsL L slot a) slot b := by
  induction a generalizing L with
  | nil => rfl
  | cons x r ih => exact ih _
def WFx (n : Nat) (L : Nat → Lk) : Prop := ∃ R, WF n L R
theorem WFx.outs {n : Nat} (Q : List Nat) : ∀ {L : Nat → Lk}, WFx n L → (∀ q ∈ Q, q < n) → WFx n (outsL L Q) := by
  induction Q with
  | nil => exact fun h _ => h
  | cons q r ih =>
    intro L ⟨R, h⟩ hq
    exact ih ⟨_, h.out (hq q (List.mem_cons_self ..))⟩ (fun x hx => hq x (List.mem_cons_of_mem _ hx))
theorem WFx.adds {n : Nat} {slot : Nat} (hs : slot < n) (l : List Nat) : ∀ {L : Nat → Lk}, WFx n L → (∀ i ∈ l, i < n) → WFx n (addsL L slot l) := by
  induction l with
  | nil => exact fun h _ => h
  | cons i r ih =>
    intro L ⟨R, h⟩ hi
    refine ih ?_ (fun x hx => hi x (List.mem_cons_of_mem _ hx))
    by_cases c : (L i).up = (slot : Int)
    · rw [if_pos c]; exact ⟨R, h⟩
    · rw [if_neg c]; exact ⟨_, h.putR hs (hi i (List.mem_cons_self ..)) (.inl rfl)⟩
theorem outs_up (Q : List Nat) : ∀ (L : Nat → Lk) (k : Nat), (outsL L Q k).up = if k ∈ Q then -1 else (L k).up := by
  induction Q with
  | nil => intro L k; rfl
  | cons q r ih =>
    intro L k
    show (outsL (outL L q) r k).up = _
    rw [ih]
    by_cases c : k = q
    · subst c
      rw [if_pos (List.mem_cons_self ..)]
      by_cases c2 : k ∈ r
      · rw [if_pos c2]
      · rw [if_neg c2]; exact out_up
    · rw [out_upne c]
      by_cases c2 : k ∈ r
      · rw [if_pos c2, if_pos (List.mem_cons_of_mem _ c2)]
      · rw [if_neg c2, if_neg (fun h => by rcases List.mem_cons.1 h with h | h; exact c h; exact c2 h)]
theorem adds_up (slot : Nat) (l : List Nat) : ∀ (L : Nat → Lk) (k : Nat), (addsL L slot l k).up = if k ∈ l then (slot : Int) else (L k).up := by
  induction l with
  | nil => intro L k; rfl
  | cons i r ih =>
    intro L k
    show (addsL (if (L i).up = (slot : Int) then L else putL L slot i (-1)) slot r k).up = _
    rw [ih]
    by_cases c2 : k ∈ r
    · rw [if_pos c2, if_pos (List.mem_cons_of_mem _ c2)]
    · rw [if_neg c2]
      by_cases c : k = i
      · subst c
        rw [if_pos (List.mem_cons_self ..)]
        by_cases c3 : (L k).up = (slot : Int)
        · rw [if_pos c3]; exact c3
        · rw [if_neg c3]; exact put_up_same
      · have hnm : ¬ k ∈ i :: r := fun h => by
          rcases List.mem_cons.1 h with h | h
          · exact c h
          · exact c2 h
        rw [if_neg hnm]
        by_cases c3 : (L i).up = (slot : Int)
        · rw [if_pos c3]
        · rw [if_neg c3]; exact put_up c

set_option maxRecDepth 20000 in
set_option maxHeartbeats 2000000 in
theorem give_ok (K : Nat → Prop) (p slot : Nat) (l : List Nat) (n : Nat) (hln : l.length = n) (a : Option Addr) (cap : Nat) (S : Dm) (G : Nat → List Nat) (w : World) (h : DX K w p S) (hW : WF S.n S.gf G) (hG : GiveOk S slot l) (hn : S.n ≤ 1000000) (hr : RowI w a l) (hra : ∀ g o, a = some ⟨g, o, none⟩ → l ≠ [] → K g) :
    Calls Tryz.prog 28 #[.pointer (some ⟨p, 0, none⟩), .int .i64 (slot : Int), .slice a n cap] w fun e w' => e = .returned (.int .u16 0) ∧ DX K w' p (S.setG (addsL (outsL S.gf (G slot)) slot l)) ∧ Kept K w w' := by
  have rm := mayGive_ok K p slot l n hln a cap S w h hG hn hr (fun g o e hl => h.lt g (hra g o e hl))
  obtain ⟨ga, gc, hY⟩ := h
  obtain ⟨g, rfl, -, -, -⟩ := hY.at (by have := hG.slt; omega)
  have RR : Hid (∀ X, Kept (fun k => k < w.heap.size) w X → Calls Tryz.prog 59 #[chG p, .int .i64 (slot : Int)] X fun e w' => ∃ ao c, e = .returned (.slice ao (G slot).length c) ∧ OwnZ (fun k => k < X.heap.size) w' 3 1 ao (G slot).length c (ivs (G slot)) ∧ Kept (fun k => k < X.heap.size) X w') := fun X hX => rowG K p g gc slot S G X (hY.kept hX) hW hG.slt hn
  have hQl := hW.len_le hG.slt
  have hQlt := hW.lt slot hG.slt
  obtain ⟨Q, hQ⟩ : ∃ Q, G slot = Q := ⟨_, rfl⟩
  rw [hQ] at RR hQl hQlt ⊢
  have HY : Hid (DY K w p S (some ⟨g, 0, none⟩) gc) := hY
  have HWX : Hid (WFx S.n S.gf) := ⟨G, hW⟩
  have HQL : Hid (∀ i ∈ Q, i < S.n) := hQlt
  have HG : Hid (GiveOk S slot l) := hG
  have HR : Hid (RowI w a l) := hr
  have HRA : Hid (∀ g o, a = some ⟨g, o, none⟩ → l ≠ [] → K g) := hra
  have HLN : Hid (l.length = n) := hln
  have hn200 : n ≤ 200 := by rw [← hln]; exact hG.few
  have hQ6 : Q.length ≤ 1000000 := by omega
  have HNN : Hid (S.n ≤ 1000000) := hn
  clear hY hW hG hr hra hln hQ hQl hQlt hn
  go_enter Tryz.func28, Tryz.ntmps28
  go_wp2_with fail
  refine rm.mono ?_
  rintro e w1 ⟨rfl, k1⟩
  have rr := RR.out w1 k1
  have HRR : Hid (Calls Tryz.prog 59 #[chG p, .int .i64 (slot : Int)] w1 fun e w' => ∃ ao c, e = .returned (.slice ao Q.length c) ∧ OwnZ (fun k => k < w1.heap.size) w' 3 1 ao Q.length c (ivs Q) ∧ Kept (fun k => k < w1.heap.size) w1 w') := rr
  have HK1 : Hid (Kept (fun k => k < w.heap.size) w w1) := k1
  clear rm rr RR k1
  go_wp2_with (go_at_call 75; refine (gifts_any _ _).mono ?_; rintro e w2 ⟨rfl, hw2⟩; replace hw2 := hw2.symm; subst hw2)
  refine HRR.out.mono ?_
  rintro e w2 ⟨ao, c, rfl, hO, hK2⟩
  obtain ⟨K2, hK2e⟩ : ∃ K2 : Nat → Prop, (fun k => K k ∨ blkOf ao k) = K2 := ⟨_, rfl⟩
  have kk : Kept (fun k => k < w.heap.size) w w2 := HK1.out.trans (hK2.mono fun k h => Nat.lt_of_lt_of_le h HK1.out.size)
  have hY2 : DY K2 w2 p S (some ⟨g, 0, none⟩) gc := by
    rw [← hK2e]
    refine HY.out.more kk (fun k hk => ?_) (fun k hk => ?_)
    · rcases hk with hk | hk
      · exact .inl hk
      · exact .inr (Nat.le_trans HK1.out.size (Nat.le_of_not_lt (OwnZ.out hO hk).1))
    · rcases hk with hk | hk
      · exact Nat.lt_of_lt_of_le (HY.out.1 k hk) kk.size
      · exact (OwnZ.out hO hk).2
  have HO : Hid (OwnZ (fun k => k < w1.heap.size) w2 3 1 ao Q.length c (ivs Q)) := hO
  have HY2 : Hid (DY K2 w2 p S (some ⟨g, 0, none⟩) gc) := hY2
  have HK2 : Hid ((fun k => K k ∨ blkOf ao k) = K2) := hK2e
  have HKW : Hid (Kept K w w2) := kk.mono HY.out.1
  obtain ⟨N, hN⟩ : ∃ N, Q.length = N := ⟨_, rfl⟩
  rw [hN] at hQ6 ⊢
  have HN : Hid (Q.length = N) := hN
  clear hO hK2 hY2 hK2e kk hN HRR
  go_upto_region 6 with fail
  go_loopg [26] N (fun gh v wr => ∃ j : Nat, gh = N - j ∧ j ≤ N ∧ v = .int .i64 (j : Int) ∧ DY K2 wr p (S.setG (outsL S.gf (Q.take j))) (some ⟨g, 0, none⟩) gc ∧ Kept K2 w2 wr)
  case atStart => exact ⟨0, rfl, Nat.zero_le _, rfl, HY2.out, Kept.refl _ _⟩
  case round =>
    obtain ⟨j, hgj, hj, rfl, hYj, hKj⟩ := hrel
    by_cases hlt : j < N
    · have hl : j < Q.length := by rw [HN.out]; exact hlt
      obtain ⟨R', hW'⟩ := HWX.out.outs (Q.take j) (fun q hq => HQL.out q (List.mem_of_mem_take hq))
      have hQj : Q[j] < S.n := HQL.out Q[j] (List.getElem_mem hl)
      have rt := takeOutG K2 p g gc Q[j] (S.setG (outsL S.gf (Q.take j))) R' wr hYj hW' hQj (by have := HNN.out; show S.n ≤ _; omega)
      obtain ⟨gq, hgq, hcell⟩ := HO.out.cell (j := j) (u := iv Q[j]) (by simp [ivs, hl])
      have hcw : wr.cell? ⟨gq, j, none⟩ = some (.int .i64 (Q[j] : Int)) := by
        rw [hKj.cell (p := ⟨gq, j, none⟩) (by rw [← HK2.out]; exact .inr hgq)]
        exact hcell
      have e1 : outL (outsL S.gf (Q.take j)) Q[j] = outsL S.gf (Q.take (j + 1)) := by
        rw [List.take_succ_eq_append_getElem hl, outsL_append]; rfl
      have rt' : Calls Tryz.prog 67 #[chG p, .int .i64 (Q[j] : Int)] wr fun e w' => e = .returned (.tuple #[]) ∧ DY K2 w' p (S.setG (outsL S.gf (Q.take (j + 1)))) (some ⟨g, 0, none⟩) gc ∧ Kept K2 wr w' := by
        rw [← e1]; exact rt
      subst hgq
      obtain ⟨q, hq⟩ : ∃ q, Q[j] = q := ⟨_, rfl⟩
      rw [hq] at rt' hcw
      have HKj : Hid (Kept K2 w2 wr) := hKj
      clear rt e1 hcell hYj hKj hq hQj hW'
      go_wp2_with fail
      refine rt'.mono ?_
      rintro e w3 ⟨rfl, hY3, hK3⟩
      have HY3 : Hid (DY K2 w3 p (S.setG (outsL S.gf (Q.take (j + 1)))) (some ⟨g, 0, none⟩) gc) := hY3
      have HK3 : Hid (Kept K2 w2 w3) := HKj.out.trans hK3
      clear rt' hY3 hK3 hcw
      go_wp2
      go_roundg (N - (j + 1))
      case rel => exact ⟨j + 1, rfl, by omega, by go_num, HY3.out, HK3.out⟩
      case measure => omega
    · have hjN : j = N := by omega
      subst hjN
      have hall : Q.take j = Q := List.take_of_length_le (by rw [HN.out]; exact Nat.le_refl _)
      rw [hall] at hYj
      obtain ⟨L0, hL0⟩ : ∃ L0, outsL S.gf Q = L0 := ⟨_, rfl⟩
      have hWX0 := HWX.out.outs Q HQL.out
      rw [hL0] at hYj hWX0
      have HL0 : Hid (outsL S.gf Q = L0) := hL0
      have HWX0 : Hid (WFx S.n L0) := hWX0
      have HYF : Hid (DY K wr p (S.setG L0) (some ⟨g, 0, none⟩) gc) := hYj.more (Kept.refl _ _) (fun k hk => .inl (by rw [← HK2.out]; exact .inl hk)) (fun k hk => hYj.1 k (by rw [← HK2.out]; exact .inl hk))
      have HKF : Hid (Kept K w wr) := HKW.out.trans (hKj.mono fun k hk => by rw [← HK2.out]; exact .inl hk)
      obtain ⟨W5, rfl⟩ : ∃ W5, W5 = wr := ⟨_, rfl⟩
      clear hYj hKj hall hL0 hWX0 HO HY2 HK2 HKW
      go_upto_region 11 with fail
      go_loopg [36] n (fun gh2 s wy => ∃ j2 : Nat, gh2 = n - j2 ∧ j2 ≤ n ∧ s = .int .i64 (j2 : Int) ∧ DX K wy p (S.setG (addsL L0 slot (l.take j2))) ∧ Kept K w wy)
      case atStart => exact ⟨0, rfl, Nat.zero_le _, rfl, ⟨_, _, HYF.out⟩, HKF.out⟩
      case round =>
        obtain ⟨j2, hg2, hj2, rfl, hX5, hK5⟩ := hrel
        by_cases hl2 : j2 < n
        · have hl : j2 < l.length := by rw [HLN.out]; exact hl2
          have hmem := List.getElem_mem hl
          obtain ⟨hli, hls, hlne⟩ := HG.out.all l[j2] hmem
          obtain ⟨x, o, rfl, d⟩ := HR.out j2 hl
          have hd : wr.cell? ⟨x, o + j2, none⟩ = some (.int .i64 (l[j2] : Int)) := (hK5.cell (p := ⟨x, o + j2, none⟩) (HRA.out x o rfl (fun e => by rw [e] at hl; cases hl))).trans d
          have hn9 : (S.setG (addsL L0 slot (l.take j2))).n ≤ 1000000000 := by have := HNN.out; show S.n ≤ _; omega
          have rs := slot_in K p l[j2] _ wr hX5 hli hn9
          obtain ⟨R5, hW5⟩ := HWX0.out.adds HG.out.slt (l.take j2) (fun i hi => (HG.out.all i (List.mem_of_mem_take hi)).1)
          have e1 : addsL L0 slot (l.take (j2 + 1)) = if (addsL L0 slot (l.take j2) l[j2]).up = (slot : Int) then addsL L0 slot (l.take j2) else putL (addsL L0 slot (l.take j2)) slot l[j2] (-1) := by
            rw [List.take_succ_eq_append_getElem hl, addsL_append]; rfl
          obtain ⟨ga5, gc5, hY5⟩ := hX5
          obtain ⟨g5, rfl, -, -, -⟩ := hY5.at (by show 0 < S.n; omega)
          have rp := putG K p g5 gc5 slot l[j2] (-1) (S.setG (addsL L0 slot (l.take j2))) R5 wr hY5 hW5 HG.out.slt hli (fun e => hlne e.symm) (.inl rfl) hn9
          obtain ⟨z, hz⟩ : ∃ z, (addsL L0 slot (l.take j2) l[j2]).up = z := ⟨_, rfl⟩
          have rs' : Calls Tryz.prog 55 #[.pointer (some ⟨p, 0, none⟩), .int .i64 (l[j2] : Int)] wr fun e w' => e = .returned (.int .i64 z) ∧ w' = wr := by rw [← hz]; exact rs
          rw [hz] at e1
          obtain ⟨q, hq⟩ : ∃ q, l[j2] = q := ⟨_, rfl⟩
          rw [hq] at hd rs' rp e1
          have HY5 : Hid (DY K wr p (S.setG (addsL L0 slot (l.take j2))) (some ⟨g5, 0, none⟩) gc5) := hY5
          have HK5 : Hid (Kept K w wr) := hK5
          have HE1 : Hid (addsL L0 slot (l.take (j2 + 1)) = if z = (slot : Int) then addsL L0 slot (l.take j2) else putL (addsL L0 slot (l.take j2)) slot q (-1)) := e1
          have HRP : Hid (Calls Tryz.prog 76 #[chG p, .int .i64 (slot : Int), .int .i64 (q : Int), .int .i64 (-1)] wr fun e w' => e = .returned (.tuple #[]) ∧ DY K w' p (S.setG (putL (addsL L0 slot (l.take j2)) slot q (-1))) (some ⟨g5, 0, none⟩) gc5 ∧ Kept K wr w') := rp
          clear rs rp hY5 hK5 e1 hW5 d hz hq hmem hls hlne hli
          by_cases cz : z = (slot : Int)
          · subst cz
            have he := HE1.out
            rw [if_pos rfl] at he
            have HE : Hid (addsL L0 slot (l.take (j2 + 1)) = addsL L0 slot (l.take j2)) := he
            clear he HE1 HRP
            go_wp2_with (go_at_call 55; refine rs'.mono ?_; rintro e w6 ⟨rfl, hw6⟩; replace hw6 := hw6.symm; subst hw6)
            go_roundg (n - (j2 + 1))
            case rel => exact ⟨j2 + 1, rfl, by omega, by go_num, by rw [HE.out]; exact ⟨_, _, HY5.out⟩, HK5.out⟩
            case measure => omega
          · have he := HE1.out
            rw [if_neg cz] at he
            have HE : Hid (addsL L0 slot (l.take (j2 + 1)) = putL (addsL L0 slot (l.take j2)) slot q (-1)) := he
            have hne : (z != (slot : Int)) = true := by simpa using cz
            clear he HE1 cz
            go_wp2_with (go_at_call 55; refine rs'.mono ?_; rintro e w6 ⟨rfl, hw6⟩; replace hw6 := hw6.symm; subst hw6)
            refine HRP.out.mono ?_
            rintro e w7 ⟨rfl, hY7, hK7⟩
            have HX7 : Hid (DX K w7 p (S.setG (addsL L0 slot (l.take (j2 + 1))))) := by rw [HE.out]; exact ⟨_, _, hY7⟩
            have HK7 : Hid (Kept K w w7) := HK5.out.trans hK7
            clear HRP hY7 hK7 rs' hd
            go_wp2
            go_roundg (n - (j2 + 1))
            case rel => exact ⟨j2 + 1, rfl, by omega, by go_num, HX7.out, HK7.out⟩
            case measure => omega
        · have hjn : j2 = n := by omega
          subst hjn
          have hall : l.take j2 = l := List.take_of_length_le (by rw [HLN.out]; exact Nat.le_refl _)
          rw [hall] at hX5
          have HX5 : Hid (DX K wr p (S.setG (addsL L0 slot l))) := hX5
          have HK5 : Hid (Kept K w wr) := hK5
          clear hX5 hK5 hall
          go_wp2
          go_ret
          exact ⟨rfl, by have := HX5.out; rw [← HL0.out] at this; exact this, HK5.out⟩
end Go.Proofs.YthhoicmfmfeehaaGreat
