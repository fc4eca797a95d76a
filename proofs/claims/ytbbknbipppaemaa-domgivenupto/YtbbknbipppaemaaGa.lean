/-
  Leaves of Doc.Give: Slot, mayShow, the two questions, IndexFunc, ContainsFunc, mayGive where all may be given.
-/
import Derived.Test.YtbbknbipppaemaaCE
import Derived.Test.YtbbknbipppaemaaCR
import Derived.Laws.EntriesVeiled
namespace Go.Proofs.Ytbbknbipppaemaa
open Go.RowKit
set_option linter.unusedVariables false

set_option maxRecDepth 20000 in
theorem slot_in (K : Nat → Prop) (p i : Nat) (S : Dm) (w : World) (h : DX K w p S) (hi : i < S.n) (hn : S.n ≤ 1000000000) :
    Calls Try.prog 19 #[.pointer (some ⟨p, 0, none⟩), .int .i64 (i : Int)] w fun e w' => e = .returned (.int .i64 (S.gf i).up) ∧ w' = w := by
  obtain ⟨ga, cap, hY⟩ := h
  obtain ⟨g, rfl, -, -, -⟩ := hY.at (by omega)
  have r := at_yes p g S.n cap i w hY.c1 hi hn
  obtain ⟨c0, -, -, -, -⟩ := hY.gcell hi
  clear hY
  go_enter Try.func19, Try.ntmps19
  go_wp2_with (go_at_call 24; refine r.mono ?_; rintro e w2 ⟨rfl, hw2⟩; replace hw2 := hw2.symm; subst hw2)
  go_ret
  exact ⟨rfl, rfl⟩
def showB (x : Nd) : Bool := decide (x.kind = 1) || decide (x.kind = 2)
set_option maxRecDepth 20000 in
theorem mayShow_any (b o : Nat) (x : Nd) (w : World) (h0 : w.cell? ⟨b, o, none⟩ = some (.int .u8 (x.kind : Int))) :
    Calls Try.prog 52 #[.pointer (some ⟨b, o, none⟩)] w fun e w' => e = .returned (.bool (showB x)) ∧ w' = w := by
  unfold showB
  obtain ⟨kd, hk⟩ : ∃ k, x.kind = k := ⟨_, rfl⟩
  rw [hk] at h0 ⊢
  clear hk
  by_cases c1 : kd = 1
  · subst c1
    go_enter Try.func52, Try.ntmps52
    go_wp2
    go_ret
    exact ⟨rfl, rfl⟩
  · have e1 : ((kd : Int) == 1) = false := by
      have : (kd : Int) ≠ 1 := by omega
      simpa using this
    rw [decide_eq_false c1]
    by_cases c2 : kd = 2
    · subst c2
      go_enter Try.func52, Try.ntmps52
      go_wp2
      go_ret
      exact ⟨rfl, rfl⟩
    · have e2 : ((kd : Int) == 2) = false := by
        have : (kd : Int) ≠ 2 := by omega
        simpa using this
      rw [decide_eq_false c2]
      clear c1 c2
      go_enter Try.func52, Try.ntmps52
      go_wp2
      go_ret
      exact ⟨rfl, rfl⟩
set_option maxRecDepth 20000 in
/-- missing: a node that is there. -/
theorem miss_in (p b g n cap i : Nat) (w : World) (hb : w.cell? ⟨b, 0, none⟩ = some (.pointer (some ⟨p, 0, none⟩))) (hc : w.cell? ⟨p, 1, none⟩ = some (.slice (some ⟨g, 0, none⟩) n cap)) (hi : i < n) (hn : n ≤ 1000000000) :
    Calls Try.prog 50 #[.int .i64 (i : Int), .pointer (some ⟨b, 0, none⟩)] w fun e w' => e = .returned (.bool false) ∧ w' = w := by
  have r := at_yes p g n cap i w hc hi hn
  go_enter Try.func50, Try.ntmps50
  go_wp2_with (go_at_call 24; refine r.mono ?_; rintro e w2 ⟨rfl, hw2⟩; replace hw2 := hw2.symm; subst hw2)
  go_ret
  exact ⟨rfl, rfl⟩
set_option maxRecDepth 20000 in
/-- hidden: a node that may be shown. -/
theorem hide_in (p b g n cap i : Nat) (x : Nd) (w : World) (hb : w.cell? ⟨b, 0, none⟩ = some (.pointer (some ⟨p, 0, none⟩))) (hc : w.cell? ⟨p, 1, none⟩ = some (.slice (some ⟨g, 0, none⟩) n cap)) (h0 : w.cell? ⟨g, i * 22, none⟩ = some (.int .u8 (x.kind : Int))) (hi : i < n) (hn : n ≤ 1000000000) :
    Calls Try.prog 51 #[.int .i64 (i : Int), .pointer (some ⟨b, 0, none⟩)] w fun e w' => e = .returned (.bool (!showB x)) ∧ w' = w := by
  have r := mayShow_any g (i * 22) x w h0
  obtain ⟨q, hq⟩ : ∃ q, showB x = q := ⟨_, rfl⟩
  rw [hq] at r ⊢
  clear hq
  go_enter Try.func51, Try.ntmps51
  go_wp2_with (go_at_call 52; refine r.mono ?_; rintro e w2 ⟨rfl, hw2⟩; replace hw2 := hw2.symm; subst hw2)
  go_ret
  exact ⟨rfl, rfl⟩
/-- A func value that answers no to each of a list. -/
def Noes (w : World) (v : Value) (l : List Nat) : Prop :=
  ∃ f caps, v = .func (.func f) #[] caps ∧ (∀ args X, (callFunc f args).run Try.prog X = .ok (.enter f args) X) ∧ ∀ i ∈ l, Calls Try.prog f (#[.int .i64 (i : Int)] ++ caps) w fun e Y => e = .returned (.bool false) ∧ Y = w
/-- A row of numbers of nodes. -/
def RowI (w : World) (a : Option Addr) (l : List Nat) : Prop := ∀ j (h : j < l.length), ∃ g o, a = some ⟨g, o, none⟩ ∧ w.cell? ⟨g, o + j, none⟩ = some (.int .i64 (l[j] : Int))
set_option maxRecDepth 20000 in
set_option maxHeartbeats 1000000 in
theorem indexF_no (l : List Nat) (n : Nat) (hln : l.length = n) (hn : n ≤ 1000000) (a : Option Addr) (cap : Nat) (v : Value) (w : World) (hr : RowI w a l) (hv : Noes w v l) :
    Calls Try.prog 58 #[.slice a n cap, v] w fun e w' => e = .returned (.int .i64 (-1)) ∧ w' = w := by
  obtain ⟨f, caps, rfl, he, hc⟩ := hv
  have HR : Hid (RowI w a l) := hr
  have HC : Hid (∀ i ∈ l, Calls Try.prog f (#[.int .i64 (i : Int)] ++ caps) w fun e Y => e = .returned (.bool false) ∧ Y = w) := hc
  have HL : Hid (l.length = n) := hln
  clear hr hc hln
  go_enter Try.func58, Try.ntmps58
  go_upto_region 2 with fail
  go_loopg [8] n (fun gh s wr => ∃ j : Nat, gh = n - j ∧ j ≤ n ∧ s = .int .i64 (j : Int) ∧ wr = w)
  case atStart => exact ⟨0, rfl, Nat.zero_le _, rfl, rfl⟩
  case round =>
    obtain ⟨j, hgj, hj, rfl, rfl⟩ := hrel
    by_cases hlt : j < n
    · have hl : j < l.length := by rw [HL.out]; exact hlt
      obtain ⟨g, o, rfl, d⟩ := HR.out j hl
      have r := HC.out l[j] (List.getElem_mem hl)
      obtain ⟨q, hq⟩ : ∃ q, l[j] = q := ⟨_, rfl⟩
      rw [hq] at d r
      have HRR : Hid (Calls Try.prog f (#[.int .i64 (q : Int)] ++ caps) wr fun e Y => e = .returned (.bool false) ∧ Y = wr) := r
      clear hq r
      go_wp2_with fail
      refine HRR.out.mono ?_
      rintro e w2 ⟨rfl, hw2⟩
      replace hw2 := hw2.symm
      subst hw2
      clear HRR d
      go_wp2
      go_roundg (n - (j + 1))
      case rel => exact ⟨j + 1, rfl, by omega, by go_num, rfl⟩
      case measure => omega
    · have hjn : j = n := by omega
      subst hjn
      clear he
      go_wp2
      go_ret
      exact ⟨rfl, rfl⟩
set_option maxRecDepth 20000 in
theorem contains_no (l : List Nat) (n : Nat) (hln : l.length = n) (hn : n ≤ 1000000) (a : Option Addr) (cap : Nat) (v : Value) (w : World) (hr : RowI w a l) (hv : Noes w v l) :
    Calls Try.prog 53 #[.slice a n cap, v] w fun e w' => e = .returned (.bool false) ∧ w' = w := by
  have r := indexF_no l n hln hn a cap v w hr hv
  clear hr hv hln
  go_enter Try.func53, Try.ntmps53
  go_wp2_with (go_at_call 58; refine r.mono ?_; rintro e w2 ⟨rfl, hw2⟩; replace hw2 := hw2.symm; subst hw2)
  go_ret
  exact ⟨rfl, rfl⟩
end Go.Proofs.Ytbbknbipppaemaa
