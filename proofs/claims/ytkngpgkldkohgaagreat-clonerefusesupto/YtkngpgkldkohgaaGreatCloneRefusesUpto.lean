/-
  CloneRefuses (portierelaw15): for every slice of calls, every number and every bool the statement answers true: what Clone refuses makes nothing: both documents are told alike, and a number that is none is refused as such. Condition: the bulk of what comes in is at most 1048576 (the given second form).
-/
import Derived.Test.YtkngpgkldkohgaaGreatRows
import Derived.Test.YtkngpgkldkohgaaGreatDr
import Derived.WalkKit
import Derived.ProofKit
import Derived.OpenShut
import Derived.ShutString
import Derived.ChangeOld
import Derived.Below
import Derived.SizedLaws
import Derived.JoinedCond
namespace Go.Proofs.YtkngpgkldkohgaaGreat.cloneRefusesUpto
open Go.ChangeShapes Go.WideShapes Go.ChangeAt Go.RowKit Go.Deep
set_option linter.unusedVariables false

theorem own : ownKnob Tryz.prog.godebug = none := by kernel_rfl
theorem laidOut : laidOutB Tryz.prog = true := by kernel_rfl

set_option maxRecDepth 100000 in
theorem contract (H : Type) (enc : TypeId × Value → H) (W : World) (base : Nat) (args : Array Value) (ds gs : List (DataW H)) (before : List MemPlace)
    (hval0 : ∀ (j : Nat) t v, Tryz.f12.params[j]? = some t → args[j]? = some v → Value.okWide Tryz.prog W .any base t v)
    (hW : DataW.Whole enc Tryz.prog Tryz.f12.params.toList Rows.cloneRefusesSpec.vars false W args.toList ds gs before) (hk : Rows.uptoSmall H (ds ++ gs) = true) :
    Calls Tryz.prog 12 args W fun e W' => ∃ v, e = .returned v ∧ Rows.cloneRefusesSpec.post enc Tryz.prog Tryz.f12 false true false false W args v W' := by
  have hval : ∀ (j : Nat) t v, Tryz.f12.params[j]? = some t → args[j]? = some v → Value.okWide Tryz.prog W .any base t v := hval0
  have hW' := hW
  obtain ⟨p, q, hA0, hV, rfl, hfz, hnd⟩ := hW
  have hA : DataW.TrodAll enc Tryz.prog W 0 (fun _ => true) true Tryz.f12.params.toList args.toList ds p := hA0
  rw [Tryz.params12] at hA hval
  obtain ⟨v0, vs0, d0, ds0, p0, q0, hargs, rfl, rfl, h0, r0⟩ := trodAll_cons hA
  obtain ⟨v1, vs1, d1, ds1, p1, q1, hargs1, rfl, rfl, h1, r1⟩ := trodAll_cons r0
  obtain ⟨v2, vs2, d2, ds2, p2, q2, hargs2, rfl, rfl, h2, r2⟩ := trodAll_cons r1
  obtain ⟨rfl, rfl, rfl⟩ := trodAll_nil r2
  obtain rfl : args = #[v0, v1, v2] := by cases args; simp_all
  obtain ⟨rfl, rfl⟩ := trodVars_none hV
  have k0 := h0
  have lt0 : ∀ x ∈ p0, x.block < W.heap.size := by obtain ⟨m, hm⟩ := k0; exact DataW.trod_lt m _ _ _ hm
  obtain ⟨a0, len0, cap0, hv0⟩ := okWide_slice Tryz.underlying22 (hval 0 22 v0 rfl rfl)
  obtain ⟨a0, c0, l0, hs0, hO0, hok0, hmx0, hbk0⟩ : ∃ (a : Option Addr) (c : Nat) (l : List Opx), v0 = .slice a l.length c ∧ OpsAt (fun k => k < W.heap.size) W a l ∧ (∀ o ∈ l, OpOk o) ∧ l.length ≤ maxLen ∧ opsH l ≤ Rows.uptoBulk d0 := by
    obtain ⟨fuel, hf⟩ := h0
    have hc : Value.cells v0 = #[v0] := by rw [hv0]; rfl
    rw [hc] at hf
    exact open_ops hf
  subst hs0
  obtain ⟨z1, rfl, rfl, rfl, w1⟩ := open_int Tryz.underlying3 (hval 1 3 v1 rfl rfl) h1
  obtain ⟨b2, rfl, rfl, rfl⟩ := open_bool Tryz.underlying4 (hval 2 4 v2 rfl rfl) h2
  have hbulk : Rows.uptoBulk d0 ≤ 1048576 := by
    have h : Rows.uptoBulkAll (_ ++ []) ≤ 1048576 := of_decide_eq_true hk
    simp only [List.append_nil, Rows.uptoBulkAll] at h
    omega
  clear hA0 hval0
  have hwalk : Calls Tryz.prog 12 #[.slice a0 l0.length c0, .int .i64 z1, .bool b2] W fun e w' => e = .returned (.bool true) ∧ Kept (fun k => k < W.heap.size) W w' := by
    by_cases c60 : l0.length ≤ 60
    · by_cases c6 : opsH l0 ≤ 6000
      · exact crefuse_go l0 l0.length rfl c60 a0 c0 hok0 c6 W hO0 z1 b2
      · exact crefuse_no a0 l0.length c0 W z1 b2 (by have := heavy15_any l0 l0.length rfl c60 a0 c0 (by omega) W hO0; rw [decide_eq_true (by omega : 6000 < opsH l0)] at this; exact this)
    · exact crefuse_no a0 l0.length c0 W z1 b2 (hv15_long l0.length (by omega) a0 c0 W)
  refine hwalk.mono fun e W' ⟨he, bel0⟩ => ?_
  have bel := bel0.below
  subst he
  exact ⟨_, rfl, _, _, _, [], _, [], hW', trodAll_mk1 (shut_bool Tryz.underlying4 _), (trodAll_cons_mk (Below.trod laidOut (by kernel_rfl) (of_decide_eq_true (by kernel_rfl)) k0 bel lt0) (trodAll_cons_mk (shut_int Tryz.underlying3 w1) (trodAll_cons_mk (shut_bool Tryz.underlying4 _) trodAll_mk0))), rfl, bel.frame _, fun h => by cases h⟩

set_option maxRecDepth 100000 in
theorem lifted (os : Os) (started : os.Started) (H : Type) (enc : TypeId × Value → H) (F : Stop.Interp) :
    ReturnsInHanded {} Tryz.checked os 12 .any ((Rows.OpenSpec.upto Rows.cloneRefusesSpec).pre6 enc Tryz.prog Tryz.f12 Rows.cloneRefusesUptoRow.domain false) (((Rows.OpenSpec.upto Rows.cloneRefusesSpec).at F).post enc Tryz.prog Tryz.f12 false true false false) := by
  refine returnsInHanded_of_cond (C := Tryz.checked) (s := Rows.OpenSpec.upto Rows.cloneRefusesSpec) (k := Rows.uptoSmall) rfl own started (by kernel_rfl) Tryz.func12
    (OpenSpec.witness (enc := enc) (C := Tryz.checked) (s := Rows.OpenSpec.upto Rows.cloneRefusesSpec) (k := Rows.uptoSmall) rfl false ⟨#[], #[.slice none 0 0, .int .i64 0, .bool false], []⟩ 30 (by kernel_rfl) (by kernel_rfl) (by kernel_rfl)
      (x := ([.nil, .lit (.int .i64 0), .lit (.bool false)], [], [])) (by kernel_rfl) rfl (by kernel_rfl)) ?_
  intro W base args ds gs before hval hW _ hk _
  exact contract H enc W base args ds gs before hval hW hk

set_option maxRecDepth 100000 in
set_option maxHeartbeats 4000000 in
theorem closed : joinedFacts Tryz.checked.prog 12 Tryz.f12 (Rows.OpenSpec.upto Rows.cloneRefusesSpec).bare Rows.cloneRefusesUptoRow = true := by
  unfold joinedFacts
  simp only [Bool.and_eq_true]
  repeat' apply And.intro
  all_goals as_aux_lemma => kernel_rfl
theorem named : Tryz.checked.prog.funcNamed Rows.cloneRefusesUptoRow.func = some 12 := by kernel_rfl

theorem proved : Rows.CloneRefusesUptoSaid :=
  OpenClaim.holds_of_cond 12 Tryz.f12 rfl rfl rfl rfl rfl rfl rfl ⟨rfl, rfl, rfl, rfl, rfl⟩ rfl rfl rfl rfl rfl named Tryz.func12 closed
    (of_decide_eq_true (by kernel_rfl)) (by unfold Func.isWrapper; first | (rw [if_pos (by decide +kernel)]; kernel_rfl) | (rw [if_neg (by decide +kernel)]; exact ⟨rfl, rfl⟩))
    (fun os started H enc _ F => lifted os started H enc F)
end Go.Proofs.YtkngpgkldkohgaaGreat.cloneRefusesUpto

namespace Go.Proofs.YtkngpgkldkohgaaGreat
theorem cloneRefusesUpto_holds : Rows.CloneRefusesUptoSaid := cloneRefusesUpto.proved
#print axioms cloneRefusesUpto_holds
end Go.Proofs.YtkngpgkldkohgaaGreat
