/-
  For every byte and every text the Go function portierelaw07.TreeVoid returns true, and its arguments read afterwards as before.
-/
import Derived.Test.YtffllhohlfblnaaRows
import Derived.Test.YtffllhohlfblnaaVd
import Derived.WalkKit
import Derived.ProofKit
import Derived.OpenShut
import Derived.ShutString
namespace Go.Proofs.Ytffllhohlfblnaa.treeVoid
open Go.ChangeShapes Go.WideShapes Go.ChangeAt Go.RowKit
open Go.ChangeMaps (open_string shut_string)
set_option linter.unusedVariables false

theorem own : ownKnob Try.prog.godebug = none := by kernel_rfl

theorem walk (a0 : Int) (a1 : ByteArray) (w0 : (Lit.int .u8 a0).wf = true) (w1 : a1.size ≤ maxLen) (w : World) :
    Calls Try.prog 6 #[.int .u8 a0, .string a1] w fun e w' => e = .returned (.bool true) ∧ Below w.heap.size w w' := by
  have hK : ∀ X, Kept (fun k => k < w.heap.size) w X → Below w.heap.size w X := fun _ h => h.below
  have rk := known_any w
  by_cases hz : a1.size ≤ 100
  · by_cases h0 : (a1.toList == []) = true
    · have hz' : decide ((a1.size : Int) > 100) = false := decide_eq_false (by omega)
      clear w0 w1
      go_enter Try.func6, Try.ntmps6
      go_wp2_with fail
      refine rk.mono ?_
      rintro e w1 ⟨rfl, k1⟩
      clear rk
      go_wp2
      go_ret
      exact ⟨rfl, hK _ k1⟩
    · have h0' : (a1.toList == []) = false := by simpa using h0
      have hw : 0 ≤ a0 ∧ a0 ≤ 255 := by simpa [Lit.wf, IntKind.min, IntKind.max, IntKind.signed, IntKind.bits] using w0
      have ht : a0.tmod 12 = a0 % 12 := Int.tmod_eq_emod_of_nonneg hw.1
      have hr : a0 % 12 = 0 ∨ a0 % 12 = 1 ∨ a0 % 12 = 2 ∨ a0 % 12 = 3 ∨ a0 % 12 = 4 ∨ a0 % 12 = 5 ∨ a0 % 12 = 6 ∨ a0 % 12 = 7 ∨ a0 % 12 = 8 ∨ a0 % 12 = 9 ∨ a0 % 12 = 10 ∨ a0 % 12 = 11 := by omega
      rcases hr with hr | hr | hr | hr | hr | hr | hr | hr | hr | hr | hr | hr
      · exact (void0 a0 a1 (ht.trans hr) hz h0' w).mono fun e w' h => ⟨h.1, hK _ h.2⟩
      · exact (void1 a0 a1 (ht.trans hr) hz h0' w).mono fun e w' h => ⟨h.1, hK _ h.2⟩
      · exact (void2 a0 a1 (ht.trans hr) hz h0' w).mono fun e w' h => ⟨h.1, hK _ h.2⟩
      · exact (void3 a0 a1 (ht.trans hr) hz h0' w).mono fun e w' h => ⟨h.1, hK _ h.2⟩
      · exact (void4 a0 a1 (ht.trans hr) hz h0' w).mono fun e w' h => ⟨h.1, hK _ h.2⟩
      · exact (void5 a0 a1 (ht.trans hr) hz h0' w).mono fun e w' h => ⟨h.1, hK _ h.2⟩
      · exact (void6 a0 a1 (ht.trans hr) hz h0' w).mono fun e w' h => ⟨h.1, hK _ h.2⟩
      · exact (void7 a0 a1 (ht.trans hr) hz h0' w).mono fun e w' h => ⟨h.1, hK _ h.2⟩
      · exact (void8 a0 a1 (ht.trans hr) hz h0' w).mono fun e w' h => ⟨h.1, hK _ h.2⟩
      · exact (void9 a0 a1 (ht.trans hr) hz h0' w).mono fun e w' h => ⟨h.1, hK _ h.2⟩
      · exact (void10 a0 a1 (ht.trans hr) hz h0' w).mono fun e w' h => ⟨h.1, hK _ h.2⟩
      · exact (void11 a0 a1 (ht.trans hr) hz h0' w).mono fun e w' h => ⟨h.1, hK _ h.2⟩
  · have hz' : decide ((a1.size : Int) > 100) = true := decide_eq_true (by omega)
    clear w0 w1
    go_enter Try.func6, Try.ntmps6
    go_wp2_with fail
    refine rk.mono ?_
    rintro e w1 ⟨rfl, k1⟩
    clear rk
    go_wp2
    go_ret
    exact ⟨rfl, hK _ k1⟩

set_option maxRecDepth 100000 in
theorem lifted (os : Os) (started : os.Started) (H : Type) (enc : TypeId × Value → H) :
    ReturnsInHanded {} Try.checked os 6 .any (Rows.treeVoidSpec.pre6 enc Try.prog Try.f6 Rows.treeVoidRow.domain false) (Rows.treeVoidSpec.post enc Try.prog Try.f6 false true false false) := by
  refine returnsInHanded_of_change (C := Try.checked) own started (by kernel_rfl) Try.func6
    (ChangeSpec.witness6 (enc := enc) (C := Try.checked) false ⟨#[], #[.int .u8 0, .string ByteArray.empty], []⟩ 8 (by kernel_rfl) (by kernel_rfl) (by kernel_rfl) (by kernel_rfl)) ?_
  intro W base args ds gs before hval0 hW hcnd _
  have hval : ∀ (j : Nat) t v, Try.f6.params[j]? = some t → args[j]? = some v → Value.okWide Try.prog W .any base t v := hval0
  have hW' := hW
  obtain ⟨p, q, hA0, hV, rfl, hfz, hnd⟩ := hW
  have hA : DataW.TrodAll enc Try.prog W 0 (fun _ => true) true Try.f6.params.toList args.toList ds p := hA0
  rw [Try.params6] at hA hval
  obtain ⟨v0, vs0, d0, ds0, p0, q0, hargs, rfl, rfl, h0, r0⟩ := trodAll_cons hA
  obtain ⟨v1, vs1, d1, ds1, p1, q1, rfl, rfl, rfl, h1, r1⟩ := trodAll_cons r0
  obtain ⟨rfl, rfl, rfl⟩ := trodAll_nil r1
  obtain rfl : args = #[v0, v1] := by cases args; simp_all
  obtain ⟨rfl, rfl⟩ := trodVars_none hV
  obtain ⟨a0, rfl, rfl, rfl, w0⟩ := open_int Try.underlying5 (hval 0 5 v0 rfl rfl) h0
  obtain ⟨a1, rfl, rfl, rfl, w1⟩ := open_string Try.underlying9 (hval 1 9 v1 rfl rfl) h1
  clear hA0 hval0
  refine (walk a0 a1 w0 w1 W).mono fun e W' ⟨he, bel⟩ => ?_
  subst he
  exact ⟨_, rfl, _, _, _, [], _, [], hW', trodAll_mk1 (shut_bool Try.underlying4 _), (trodAll_cons_mk (shut_int Try.underlying5 w0) (trodAll_cons_mk (shut_string Try.underlying9 w1) trodAll_mk0)), rfl, bel.frame _, fun h => by cases h⟩

theorem over : Rows.treeVoidRow.holds Try.pinned (OpenSpec.ofChange Rows.treeVoidSpec) :=
  OpenClaim.holds_of_wide 6 Try.f6 rfl rfl rfl rfl rfl rfl rfl ⟨rfl, rfl, rfl, rfl, rfl⟩ rfl rfl rfl rfl rfl (by kernel_rfl) Try.func6 (by kernel_rfl)
    (of_decide_eq_true (by kernel_rfl)) (by unfold Func.isWrapper; first | (rw [if_pos (by decide +kernel)]; kernel_rfl) | (rw [if_neg (by decide +kernel)]; exact ⟨rfl, rfl⟩))
    (fun os started H enc _ => lifted os started H enc)

theorem proved : Rows.TreeVoidSaid :=
  over
#print axioms proved
end Go.Proofs.Ytffllhohlfblnaa.treeVoid

namespace Go.Proofs.Ytffllhohlfblnaa
theorem treeVoid_holds : Rows.TreeVoidSaid := treeVoid.proved
#print axioms treeVoid_holds
end Go.Proofs.Ytffllhohlfblnaa
