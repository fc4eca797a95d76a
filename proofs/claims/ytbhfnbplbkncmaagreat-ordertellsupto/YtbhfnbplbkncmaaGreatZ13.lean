/-
  Leaves of Doc.Give: Slot, mayShow, the two questions, IndexFunc, ContainsFunc, mayGive where all may be given.
  Doc.Give of nodes that may be given.
-/
import Derived.Test.YtbhfnbplbkncmaaGreatZ06
import Derived.Test.YtbhfnbplbkncmaaGreatZ12
import Derived.Laws.EntriesVeiled
import Derived.Test.YtbhfnbplbkncmaaGreatZ10
namespace Go.Proofs.YtbhfnbplbkncmaaGreat
open Go.RowKit
set_option linter.unusedVariables false

set_option maxRecDepth 20000 in
theorem slot_in (K : Nat → Prop) (p i : Nat) (S : Dm) (w : World) (h : DX K w p S) (hi : i < S.n) (hn : S.n ≤ 1000000000) :
    Calls Tryz.prog 110 #[.pointer (some ⟨p, 0, none⟩), .int .i64 (i : Int)] w fun e w' => e = .returned (.int .i64 (S.gf i).up) ∧ w' = w := by
  obtain ⟨ga, cap, hY⟩ := h
  obtain ⟨g, rfl, -, -, -⟩ := hY.at (by omega)
  have r := at_yes p g S.n cap i w hY.c1 hi hn
  obtain ⟨c0, -, -, -, -⟩ := hY.gcell hi
  clear hY
  go_enter Tryz.func110, Tryz.ntmps110
  go_wp2_with (go_at_call 76; refine r.mono ?_; rintro e w2 ⟨rfl, hw2⟩; replace hw2 := hw2.symm; subst hw2)
  go_ret
  exact ⟨rfl, rfl⟩
def showB (x : Nd) : Bool := decide (x.kind = 1) || decide (x.kind = 2)
set_option maxRecDepth 20000 in
theorem mayShow_any (b o : Nat) (x : Nd) (w : World) (h0 : w.cell? ⟨b, o, none⟩ = some (.int .u8 (x.kind : Int))) :
    Calls Tryz.prog 188 #[.pointer (some ⟨b, o, none⟩)] w fun e w' => e = .returned (.bool (showB x)) ∧ w' = w := by
  unfold showB
  obtain ⟨kd, hk⟩ : ∃ k, x.kind = k := ⟨_, rfl⟩
  rw [hk] at h0 ⊢
  clear hk
  by_cases c1 : kd = 1
  · subst c1
    go_enter Tryz.func188, Tryz.ntmps188
    go_wp2
    go_ret
    exact ⟨rfl, rfl⟩
  · have e1 : ((kd : Int) == 1) = false := by
      have : (kd : Int) ≠ 1 := by omega
      simpa using this
    rw [decide_eq_false c1]
    by_cases c2 : kd = 2
    · subst c2
      go_enter Tryz.func188, Tryz.ntmps188
      go_wp2
      go_ret
      exact ⟨rfl, rfl⟩
    · have e2 : ((kd : Int) == 2) = false := by
        have : (kd : Int) ≠ 2 := by omega
        simpa using this
      rw [decide_eq_false c2]
      clear c1 c2
      go_enter Tryz.func188, Tryz.ntmps188
      go_wp2
      go_ret
      exact ⟨rfl, rfl⟩
set_option maxRecDepth 20000 in
/-- missing: a node that is there. -/
theorem miss_in (p b g n cap i : Nat) (w : World) (hb : w.cell? ⟨b, 0, none⟩ = some (.pointer (some ⟨p, 0, none⟩))) (hc : w.cell? ⟨p, 1, none⟩ = some (.slice (some ⟨g, 0, none⟩) n cap)) (hi : i < n) (hn : n ≤ 1000000000) :
    Calls Tryz.prog 186 #[.int .i64 (i : Int), .pointer (some ⟨b, 0, none⟩)] w fun e w' => e = .returned (.bool false) ∧ w' = w := by
  have r := at_yes p g n cap i w hc hi hn
  go_enter Tryz.func186, Tryz.ntmps186
  go_wp2_with (go_at_call 76; refine r.mono ?_; rintro e w2 ⟨rfl, hw2⟩; replace hw2 := hw2.symm; subst hw2)
  go_ret
  exact ⟨rfl, rfl⟩
set_option maxRecDepth 20000 in
/-- hidden: a node that may be shown. -/
theorem hide_in (p b g n cap i : Nat) (x : Nd) (w : World) (hb : w.cell? ⟨b, 0, none⟩ = some (.pointer (some ⟨p, 0, none⟩))) (hc : w.cell? ⟨p, 1, none⟩ = some (.slice (some ⟨g, 0, none⟩) n cap)) (h0 : w.cell? ⟨g, i * 22, none⟩ = some (.int .u8 (x.kind : Int))) (hi : i < n) (hn : n ≤ 1000000000) :
    Calls Tryz.prog 187 #[.int .i64 (i : Int), .pointer (some ⟨b, 0, none⟩)] w fun e w' => e = .returned (.bool (!showB x)) ∧ w' = w := by
  have r := mayShow_any g (i * 22) x w h0
  obtain ⟨q, hq⟩ : ∃ q, showB x = q := ⟨_, rfl⟩
  rw [hq] at r ⊢
  clear hq
  go_enter Tryz.func187, Tryz.ntmps187
  go_wp2_with (go_at_call 188; refine r.mono ?_; rintro e w2 ⟨rfl, hw2⟩; replace hw2 := hw2.symm; subst hw2)
  go_ret
  exact ⟨rfl, rfl⟩
/-- A row of numbers of nodes. -/
def RowI (w : World) (a : Option Addr) (l : List Nat) : Prop := ∀ j (h : j < l.length), ∃ g o, a = some ⟨g, o, none⟩ ∧ w.cell? ⟨g, o + j, none⟩ = some (.int .i64 (l[j] : Int))
end Go.Proofs.YtbhfnbplbkncmaaGreat

namespace Go.Proofs.YtbhfnbplbkncmaaGreat
open Go.RowKit
set_option linter.unusedVariables false

theorem enter186 (args : Array Value) (X : World) : (callFunc 186 args).run Tryz.prog X = .ok (.enter 186 args) X := entersE Tryz.func186 (by kernel_rfl) (c := _) rfl args X
theorem enter187 (args : Array Value) (X : World) : (callFunc 187 args).run Tryz.prog X = .ok (.enter 187 args) X := entersE Tryz.func187 (by kernel_rfl) (c := _) rfl args X
abbrev slotN : List UInt8 := [115, 108, 111, 116]
theorem slotB_list : (⟨#[115, 108, 111, 116]⟩ : ByteArray).toList = slotN := by rw [ByteArray.toList_eq]
def outsL (L : Nat → Lk) : List Nat → Nat → Lk
  | [] => L
  | q :: r => outsL (outL L q) r
def addsL (L : Nat → Lk) (slot : Nat) : List Nat → Nat → Lk
  | [] => L
  | i :: r => addsL (if (L i).up = (slot : Int) then L else putL L slot i (-1)) slot r
theorem outsL_append (L : Nat → Lk) (a b : List Nat) : outsL L (a ++ b) = outsL (outsL L a) b := by
  induction a generalizing L with
  | nil => rfl
  | cons x r ih => exact ih _
theorem addsL_append (L : Nat → Lk) (slot : Nat) (a b : List Nat) : addsL L slot (a ++ b) = addsL (addsL L slot a) slot b := by
  induction a generalizing L with
  | nil => rfl
  | cons x r ih => exact ih _
def WFx (n : Nat) (L : Nat → Lk) : Prop := ∃ R, WF n L R
theorem WFx.outs {n : Nat} (Q : List Nat) : ∀ {L : Nat → Lk}, WFx n L → (∀ q ∈ Q, q < n) → WFx n (outsL L Q) := by
  induction Q with
  | nil => exact fun h _ => h
  | cons q r ih =>
    intro L ⟨R, h⟩ hq
    exact ih ⟨_, h.out (hq q (List.mem_cons_self ..))⟩ (fun x hx => hq x (List.mem_cons_of_mem _ hx))
theorem WFx.adds {n : Nat} {slot : Nat} (hs : slot < n) (l : List Nat) : ∀ {L : Nat → Lk}, WFx n L → (∀ i ∈ l, i < n) → WFx n (addsL L slot l) := by
  induction l with
  | nil => exact fun h _ => h
  | cons i r ih =>
    intro L ⟨R, h⟩ hi
    refine ih ?_ (fun x hx => hi x (List.mem_cons_of_mem _ hx))
    by_cases c : (L i).up = (slot : Int)
    · rw [if_pos c]; exact ⟨R, h⟩
    · rw [if_neg c]; exact ⟨_, h.putR hs (hi i (List.mem_cons_self ..)) (.inl rfl)⟩
end Go.Proofs.YtbhfnbplbkncmaaGreat
