/-
  For every text the Go function portierelaw05.EscapeWrites returns true, and its argument reads afterwards as before.
-/
import Derived.Test.YtfjjifdajjlljaaRows
import Derived.Test.YtfjjifdajjlljaaText
import Derived.WalkKit
import Derived.ProofKit
import Derived.OpenShut
import Derived.ShutString
namespace Go.Proofs.Ytfjjifdajjlljaa.escapeWrites
open Go.ChangeShapes Go.WideShapes Go.ChangeAt Go.RowKit
open Go.ChangeMaps (open_string shut_string)
set_option linter.unusedVariables false

theorem own : ownKnob Try.prog.godebug = none := by kernel_rfl

set_option maxRecDepth 20000 in
set_option maxHeartbeats 1000000 in
theorem walk (a0 : ByteArray) (w0 : a0.size ≤ maxLen) (w : World) :
    Calls Try.prog 5 #[.string a0] w fun e w' => e = .returned (.bool true) ∧ Below w.heap.size w w' := by
  obtain ⟨K, hKe⟩ : ∃ K : Nat → Prop, (fun k => k < w.heap.size) = K := ⟨_, rfl⟩
  have hK : ∀ k, K k → k < w.heap.size := by
    rw [← hKe]
    exact fun k h => h
  have hfin : ∀ X, Kept K w X → Below w.heap.size w X := by
    rw [← hKe]
    exact fun _ h => h.below
  clear hKe
  have hkn := fun X hX => known_any K X hX
  by_cases hz : a0.size ≤ 2000
  · have e0 : decide ((a0.size : Int) > 2000) = false := by simp; omega
    have h1 := fun X hX => text_any a0 K X hX (by omega)
    have h2 := fun X => rtext_any a0 X (by omega)
    have h3 := fun X hX => value_any a0 K X hX (by omega)
    have h4 := fun X => rvalue_any a0 X (by omega)
    obtain ⟨R, hR⟩ : ∃ R : ByteArray, (⟨(esc false a0.data.toList).toArray⟩ : ByteArray) = R := ⟨_, rfl⟩
    rw [hR] at h1 h2
    obtain ⟨S, hS⟩ : ∃ S : ByteArray, (⟨(esc true a0.data.toList).toArray⟩ : ByteArray) = S := ⟨_, rfl⟩
    rw [hS] at h3 h4
    clear hR hS w0
    go_enter Try.func5, Try.ntmps5
    go_wp2_with fail
    refine (hkn w hK).mono ?_
    rintro e w1 ⟨rfl, p1⟩
    have q1 := p1
    clear p1
    go_wp2_with fail
    refine (h1 w1 (fun k hk => Nat.lt_of_lt_of_le (hK k hk) q1.size)).mono ?_
    rintro e w2 ⟨rfl, p2⟩
    have q2 := q1.trans p2
    clear p2 q1
    go_wp2_with fail
    refine (h2 w2).mono ?_
    rintro e w3 ⟨rfl, rfl⟩
    go_wp2_with fail
    refine (h3 w3 (fun k hk => Nat.lt_of_lt_of_le (hK k hk) q2.size)).mono ?_
    rintro e w4 ⟨rfl, p4⟩
    have q4 := q2.trans p4
    clear p4 q2
    go_wp2_with fail
    refine (h4 w4).mono ?_
    rintro e w5 ⟨rfl, rfl⟩
    go_wp2
    go_ret
    exact ⟨rfl, hfin _ q4⟩
  · have e0 : decide ((a0.size : Int) > 2000) = true := by simp; omega
    clear w0
    go_enter Try.func5, Try.ntmps5
    go_wp2_with fail
    refine (hkn w hK).mono ?_
    rintro e w1 ⟨rfl, p1⟩
    have q1 := p1
    clear p1
    go_wp2
    go_ret
    exact ⟨rfl, hfin _ q1⟩

set_option maxRecDepth 100000 in
theorem lifted (os : Os) (started : os.Started) (H : Type) (enc : TypeId × Value → H) :
    ReturnsInHanded {} Try.checked os 5 .any (Rows.escapeWritesSpec.pre6 enc Try.prog Try.f5 Rows.escapeWritesRow.domain false) (Rows.escapeWritesSpec.post enc Try.prog Try.f5 false true false false) := by
  refine returnsInHanded_of_change (C := Try.checked) own started (by kernel_rfl) Try.func5
    (ChangeSpec.witness6 (enc := enc) (C := Try.checked) false ⟨#[], #[.string ByteArray.empty], []⟩ 8 (by kernel_rfl) (by kernel_rfl) (by kernel_rfl) (by kernel_rfl)) ?_
  intro W base args ds gs before hval0 hW hcnd _
  have hval : ∀ (j : Nat) t v, Try.f5.params[j]? = some t → args[j]? = some v → Value.okWide Try.prog W .any base t v := hval0
  have hW' := hW
  obtain ⟨p, q, hA0, hV, rfl, hfz, hnd⟩ := hW
  have hA : DataW.TrodAll enc Try.prog W 0 (fun _ => true) true Try.f5.params.toList args.toList ds p := hA0
  rw [Try.params5] at hA hval
  obtain ⟨v0, vs0, d0, ds0, p0, q0, hargs, rfl, rfl, h0, r0⟩ := trodAll_cons hA
  obtain ⟨rfl, rfl, rfl⟩ := trodAll_nil r0
  obtain rfl : args = #[v0] := by cases args; simp_all
  obtain ⟨rfl, rfl⟩ := trodVars_none hV
  obtain ⟨a0, rfl, rfl, rfl, w0⟩ := open_string Try.underlying9 (hval 0 9 v0 rfl rfl) h0
  clear hA0 hval0
  refine (walk a0 w0 W).mono fun e W' ⟨he, bel⟩ => ?_
  subst he
  exact ⟨_, rfl, _, _, _, [], _, [], hW', trodAll_mk1 (shut_bool Try.underlying4 _), (trodAll_cons_mk (shut_string Try.underlying9 w0) trodAll_mk0), rfl, bel.frame _, fun h => by cases h⟩

theorem over : Rows.escapeWritesRow.holds Try.pinned (OpenSpec.ofChange Rows.escapeWritesSpec) :=
  OpenClaim.holds_of_wide 5 Try.f5 rfl rfl rfl rfl rfl rfl rfl ⟨rfl, rfl, rfl, rfl, rfl⟩ rfl rfl rfl rfl rfl (by kernel_rfl) Try.func5 (by kernel_rfl)
    (of_decide_eq_true (by kernel_rfl)) (by unfold Func.isWrapper; first | (rw [if_pos (by decide +kernel)]; kernel_rfl) | (rw [if_neg (by decide +kernel)]; exact ⟨rfl, rfl⟩))
    (fun os started H enc _ => lifted os started H enc)

theorem proved : Rows.EscapeWritesSaid :=
  over
#print axioms proved
end Go.Proofs.Ytfjjifdajjlljaa.escapeWrites

namespace Go.Proofs.Ytfjjifdajjlljaa
theorem escapeWrites_holds : Rows.EscapeWritesSaid := escapeWrites.proved
#print axioms escapeWrites_holds
end Go.Proofs.Ytfjjifdajjlljaa
