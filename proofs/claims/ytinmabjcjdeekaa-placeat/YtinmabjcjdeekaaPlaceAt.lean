/-
  For every text and every place the Go function portierelaw02.PlaceAt returns true, and its arguments read afterwards as before.
-/
import Derived.Test.YtinmabjcjdeekaaRows
import Derived.Test.YtinmabjcjdeekaaRef
import Derived.Test.YtinmabjcjdeekaaKnown
import Derived.WalkKit
import Derived.ProofKit
import Derived.OpenShut
import Derived.ShutString
namespace Go.Proofs.Ytinmabjcjdeekaa.placeAt
open Go.ChangeShapes Go.WideShapes Go.ChangeAt Go.RowKit
open Go.ChangeMaps (open_string shut_string)
set_option linter.unusedVariables false

theorem own : ownKnob Try.prog.godebug = none := by kernel_rfl

theorem walk (a0 : ByteArray) (a1 : Int) (w0 : a0.size ≤ maxLen) (w1 : (Lit.int .i64 a1).wf = true) (w : World) :
    Calls Try.prog 5 #[.string a0, .int .i64 a1] w fun e w' => e = .returned (.bool true) ∧ Below w.heap.size w w' := by
  have hK : ∀ k, (fun k => k < w.heap.size) k → k < w.heap.size := fun k h => h
  by_cases hz : a0.size ≤ 2000
  · have e0 : decide ((a0.size : Int) > 2000) = false := by simp; omega
    have hkn := known_any (fun k => k < w.heap.size) w hK
    have hat := fun X hX => at_any a0 a1 (fun k => k < w.heap.size) X hX (by omega)
    have href := fun X => refAt_any a0 a1 X (by omega)
    obtain ⟨⟨l, c⟩, hS⟩ : ∃ q, q = spot (a0.data.toList.take (clip a0 a1)) := ⟨_, rfl⟩
    rw [← hS] at hat href
    clear hS
    go_enter Try.func5, Try.ntmps5
    go_wp2_with fail
    refine hkn.mono ?_
    rintro e w1 ⟨rfl, hk1⟩
    go_wp2_with fail
    refine (hat w1 fun k hk => Nat.lt_of_lt_of_le hk hk1.size).mono ?_
    rintro e w2 ⟨rfl, hk2⟩
    go_wp2_with fail
    refine (href w2).mono ?_
    rintro e w3 ⟨rfl, rfl⟩
    go_wp2
    go_ret
    exact ⟨rfl, (hk1.trans hk2).below⟩
  · have e0 : decide ((a0.size : Int) > 2000) = true := by simp; omega
    have hkn := known_any (fun k => k < w.heap.size) w hK
    go_enter Try.func5, Try.ntmps5
    go_wp2_with (go_at_call 9; refine hkn.mono ?_; rintro e w1 ⟨rfl, hk1⟩)
    go_ret
    exact ⟨rfl, hk1.below⟩

set_option maxRecDepth 100000 in
theorem lifted (os : Os) (started : os.Started) (H : Type) (enc : TypeId × Value → H) :
    ReturnsInHanded {} Try.checked os 5 .any (Rows.placeAtSpec.pre6 enc Try.prog Try.f5 Rows.placeAtRow.domain false) (Rows.placeAtSpec.post enc Try.prog Try.f5 false true false false) := by
  refine returnsInHanded_of_change (C := Try.checked) own started (by kernel_rfl) Try.func5
    (ChangeSpec.witness6 (enc := enc) (C := Try.checked) false ⟨#[], #[.string ByteArray.empty, .int .i64 0], []⟩ 8 (by kernel_rfl) (by kernel_rfl) (by kernel_rfl) (by kernel_rfl)) ?_
  intro W base args ds gs before hval0 hW hcnd _
  have hval : ∀ (j : Nat) t v, Try.f5.params[j]? = some t → args[j]? = some v → Value.okWide Try.prog W .any base t v := hval0
  have hW' := hW
  obtain ⟨p, q, hA0, hV, rfl, hfz, hnd⟩ := hW
  have hA : DataW.TrodAll enc Try.prog W 0 (fun _ => true) true Try.f5.params.toList args.toList ds p := hA0
  rw [Try.params5] at hA hval
  obtain ⟨v0, vs0, d0, ds0, p0, q0, hargs, rfl, rfl, h0, r0⟩ := trodAll_cons hA
  obtain ⟨v1, vs1, d1, ds1, p1, q1, rfl, rfl, rfl, h1, r1⟩ := trodAll_cons r0
  obtain ⟨rfl, rfl, rfl⟩ := trodAll_nil r1
  obtain rfl : args = #[v0, v1] := by cases args; simp_all
  obtain ⟨rfl, rfl⟩ := trodVars_none hV
  obtain ⟨a0, rfl, rfl, rfl, w0⟩ := open_string Try.underlying9 (hval 0 9 v0 rfl rfl) h0
  obtain ⟨a1, rfl, rfl, rfl, w1⟩ := open_int Try.underlying3 (hval 1 3 v1 rfl rfl) h1
  clear hA0 hval0
  refine (walk a0 a1 w0 w1 W).mono fun e W' ⟨he, bel⟩ => ?_
  subst he
  exact ⟨_, rfl, _, _, _, [], _, [], hW', trodAll_mk1 (shut_bool Try.underlying4 _), (trodAll_cons_mk (shut_string Try.underlying9 w0) (trodAll_cons_mk (shut_int Try.underlying3 w1) trodAll_mk0)), rfl, bel.frame _, fun h => by cases h⟩

theorem over : Rows.placeAtRow.holds Try.pinned (OpenSpec.ofChange Rows.placeAtSpec) :=
  OpenClaim.holds_of_wide 5 Try.f5 rfl rfl rfl rfl rfl rfl rfl ⟨rfl, rfl, rfl, rfl, rfl⟩ rfl rfl rfl rfl rfl (by kernel_rfl) Try.func5 (by kernel_rfl)
    (of_decide_eq_true (by kernel_rfl)) (by unfold Func.isWrapper; first | (rw [if_pos (by decide +kernel)]; kernel_rfl) | (rw [if_neg (by decide +kernel)]; exact ⟨rfl, rfl⟩))
    (fun os started H enc _ => lifted os started H enc)

theorem proved : Rows.PlaceAtSaid :=
  over
#print axioms proved
end Go.Proofs.Ytinmabjcjdeekaa.placeAt

namespace Go.Proofs.Ytinmabjcjdeekaa
theorem placeAt_holds : Rows.PlaceAtSaid := placeAt.proved
#print axioms placeAt_holds
end Go.Proofs.Ytinmabjcjdeekaa
