/-
  Leaves of the document: where a node and its links lie.
-/
import Derived.Test.YtmplhphcdgpigaaDX
import Derived.Deep.LoopGhost
import Derived.Deep.Cut
import Derived.Deep.RegionWith
import Derived.Deep.RegionHeld3
import Derived.Deep.RegionLaw
import Derived.Deep.QuietTactic
import Derived.BigQuiet
namespace Go.Proofs.Ytmplhphcdgpigaa
open Go.RowKit
set_option linter.unusedVariables false

/-- A func value that tells where a node's links lie. -/
def ChV (p o : Nat) (v : Value) : Prop :=
  ∃ f caps, v = .func (.func f) caps #[] ∧ (∀ args X, (callFunc f args).run Try.prog X = .ok (.enter f args) X) ∧
    ∀ (X : World) (g n cap i : Nat), X.cell? ⟨p, 1, none⟩ = some (.slice (some ⟨g, 0, none⟩) n cap) → i < n → n ≤ 1000000000 → Calls Try.prog f (caps ++ #[.int .i64 (i : Int)]) X fun e Y => e = .returned (.pointer (some ⟨g, i * 22 + o, none⟩)) ∧ Y = X
set_option maxRecDepth 20000 in
theorem placeOf_any (p g n cap i : Nat) (w : World) (hc : w.cell? ⟨p, 1, none⟩ = some (.slice (some ⟨g, 0, none⟩) n cap)) (hi : i < n) (hn : n ≤ 1000000000) :
    Calls Try.prog 38 #[.pointer (some ⟨p, 0, none⟩), .int .i64 (i : Int)] w fun e w' => e = .returned (.pointer (some ⟨g, i * 22 + 12, none⟩)) ∧ w' = w := by
  go_enter Try.func38, Try.ntmps38
  go_wp2
  go_ret
  exact ⟨rfl, rfl⟩

abbrev chP (p : Nat) : Value := .func (.func 38) #[.pointer (some ⟨p, 0, none⟩)] #[]

theorem kids_any (p : Nat) (w : World) : Calls Try.prog 28 #[.pointer (some ⟨p, 0, none⟩)] w fun e w' => e = .returned (chP p) ∧ w' = w := by
  go_enter Try.func28, Try.ntmps28
  go_wp2
  go_ret
  exact ⟨rfl, rfl⟩


set_option maxRecDepth 20000 in
theorem at_yes (p g n cap i : Nat) (w : World) (hc : w.cell? ⟨p, 1, none⟩ = some (.slice (some ⟨g, 0, none⟩) n cap)) (hi : i < n) (hn : n ≤ 1000000000) :
    Calls Try.prog 22 #[.pointer (some ⟨p, 0, none⟩), .int .i64 (i : Int)] w fun e w' => e = .returned (.pointer (some ⟨g, i * 22, none⟩)) ∧ w' = w := by
  go_enter Try.func22, Try.ntmps22
  go_wp2
  go_ret
  exact ⟨rfl, rfl⟩
set_option maxRecDepth 20000 in
theorem at_no (p n cap : Nat) (ga : Option Addr) (i : Int) (w : World) (hc : w.cell? ⟨p, 1, none⟩ = some (.slice ga n cap)) (hi : i < 0 ∨ (n : Int) ≤ i) (hn : n ≤ 1000000000) :
    Calls Try.prog 22 #[.pointer (some ⟨p, 0, none⟩), .int .i64 i] w fun e w' => e = .returned (.pointer none) ∧ w' = w := by
  rcases hi with hi | hi
  · have h1 : decide (i < 0) = true := decide_eq_true hi
    go_enter Try.func22, Try.ntmps22
    go_wp2
    go_ret
    exact ⟨rfl, rfl⟩
  · have h1 : decide (i < 0) = false := decide_eq_false (by omega)
    have h2 : decide (i ≥ (n : Int)) = true := decide_eq_true (by omega)
    go_enter Try.func22, Try.ntmps22
    go_wp2
    go_ret
    exact ⟨rfl, rfl⟩
end Go.Proofs.Ytmplhphcdgpigaa
