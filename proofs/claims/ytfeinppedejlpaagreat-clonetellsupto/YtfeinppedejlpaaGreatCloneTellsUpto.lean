/-
  CloneTells: Clone answers as the document says.
-/
import Derived.Test.YtfeinppedejlpaaGreatRows
import Derived.Test.YtfeinppedejlpaaGreatNHm
import Derived.WalkKit
import Derived.ProofKit
import Derived.OpenShut
import Derived.ShutString
import Derived.ChangeOld
import Derived.Below
import Derived.SizedLaws
import Derived.JoinedCond
namespace Go.Proofs.YtfeinppedejlpaaGreat.cloneTellsUpto
open Go.ChangeShapes Go.WideShapes Go.ChangeAt Go.RowKit Go.Deep
set_option linter.unusedVariables false

theorem own : ownKnob Tryz.prog.godebug = none := by kernel_rfl
theorem laidOut : laidOutB Tryz.prog = true := by kernel_rfl

set_option maxRecDepth 100000 in
theorem contract (H : Type) (enc : TypeId × Value → H) (W : World) (base : Nat) (args : Array Value) (ds gs : List (DataW H)) (before : List MemPlace)
    (hval0 : ∀ (j : Nat) t v, Tryz.f7.params[j]? = some t → args[j]? = some v → Value.okWide Tryz.prog W .any base t v)
    (hW : DataW.Whole enc Tryz.prog Tryz.f7.params.toList Rows.cloneTellsSpec.vars false W args.toList ds gs before) (hk : Rows.uptoSmall H (ds ++ gs) = true) :
    Calls Tryz.prog 7 args W fun e W' => ∃ v, e = .returned v ∧ Rows.cloneTellsSpec.post enc Tryz.prog Tryz.f7 false true false false W args v W' := by
  have hval : ∀ (j : Nat) t v, Tryz.f7.params[j]? = some t → args[j]? = some v → Value.okWide Tryz.prog W .any base t v := hval0
  have hW' := hW
  obtain ⟨p, q, hA0, hV, rfl, hfz, hnd⟩ := hW
  have hA : DataW.TrodAll enc Tryz.prog W 0 (fun _ => true) true Tryz.f7.params.toList args.toList ds p := hA0
  rw [Tryz.params7] at hA hval
  obtain ⟨v0, vs0, d0, ds0, p0, q0, hargs, rfl, rfl, h0, r0⟩ := trodAll_cons hA
  obtain ⟨v1, vs1, d1, ds1, p1, q1, hargs1, rfl, rfl, h1, r1⟩ := trodAll_cons r0
  obtain ⟨v2, vs2, d2, ds2, p2, q2, hargs2, rfl, rfl, h2, r2⟩ := trodAll_cons r1
  obtain ⟨rfl, rfl, rfl⟩ := trodAll_nil r2
  obtain rfl : args = #[v0, v1, v2] := by cases args; simp_all
  obtain ⟨rfl, rfl⟩ := trodVars_none hV
  have k0 := h0
  have lt0 : ∀ x ∈ p0, x.block < W.heap.size := by obtain ⟨m, hm⟩ := k0; exact DataW.trod_lt m _ _ _ hm
  obtain ⟨a0, len0, cap0, hv0⟩ := okWide_slice Tryz.underlying22 (hval 0 22 v0 rfl rfl)
  obtain ⟨a0, c0, l0, hs0, hO0, hok0, hmx0, hbk0⟩ : ∃ (a : Option Addr) (c : Nat) (l : List Opx), v0 = .slice a l.length c ∧ Zf4 (fun k => k < W.heap.size) W a l ∧ (∀ o ∈ l, Zmt o) ∧ l.length ≤ maxLen ∧ zdg l ≤ Rows.uptoBulk d0 := by
    obtain ⟨fuel, hf⟩ := h0
    have hc : Value.cells v0 = #[v0] := by rw [hv0]; rfl
    rw [hc] at hf
    exact zrn hf
  subst hs0
  have k1 := h1
  have lt1 : ∀ x ∈ p1, x.block < W.heap.size := by obtain ⟨m, hm⟩ := k1; exact DataW.trod_lt m _ _ _ hm
  obtain ⟨a1, len1, cap1, hv1⟩ := okWide_slice Tryz.underlying33 (hval 1 33 v1 rfl rfl)
  obtain ⟨a1, c1, l1, hs1, hI1, hlc1, hbk1, hok1⟩ : ∃ (a : Option Addr) (c : Nat) (l : List Int), v1 = .slice a l.length c ∧ Zbo (fun k => k < W.heap.size) W a l ∧ l.length ≤ c ∧ l.length + 1 ≤ Rows.uptoBulk d1 ∧ ∀ z ∈ l, IntKind.i64.min ≤ z ∧ z ≤ IntKind.i64.max := by
    obtain ⟨fuel, hf⟩ := h1
    have hc : Value.cells v1 = #[v1] := by rw [hv1]; rfl
    rw [hc] at hf
    exact zmm hf
  subst hs1
  obtain ⟨b2, rfl, rfl, rfl⟩ := open_bool Tryz.underlying4 (hval 2 4 v2 rfl rfl) h2
  have hbulk : Rows.uptoBulk d0 + Rows.uptoBulk d1 ≤ 1048576 := by
    have h : Rows.uptoBulkAll (_ ++ []) ≤ 1048576 := of_decide_eq_true hk
    simp only [List.append_nil, Rows.uptoBulkAll] at h
    omega
  clear hA0 hval0
  have hwalk : Calls Tryz.prog 7 #[.slice a0 l0.length c0, .slice a1 l1.length c1, .bool b2] W fun e w' => e = .returned (.bool true) ∧ Kept (fun k => k < W.heap.size) W w' := by
    by_cases c60 : l0.length ≤ 60
    · have rh := ziy l0 l0.length rfl c60 a0 c0 (by omega) W hO0
      by_cases c6 : zdg l0 ≤ 6000
      · by_cases cs : l1.length ≤ 20
        · exact zra l0 l0.length rfl c60 a0 c0 hok0 c6 l1 l1.length rfl cs a1 c1 b2 W hO0 hI1
        · exact zq8 a0 l0.length c0 a1 l1.length c1 b2 W _ (.inr (by omega)) rh
      · rw [decide_eq_true (by omega : 6000 < zdg l0)] at rh
        exact zq8 a0 l0.length c0 a1 l1.length c1 b2 W true (.inl rfl) rh
    · exact zq8 a0 l0.length c0 a1 l1.length c1 b2 W true (.inl rfl) (zrf l0.length (by omega) a0 c0 W)
  refine hwalk.mono fun e W' ⟨he, bel0⟩ => ?_
  have bel := bel0.below
  subst he
  exact ⟨_, rfl, _, _, _, [], _, [], hW', trodAll_mk1 (shut_bool Tryz.underlying4 _), (trodAll_cons_mk (Below.trod laidOut (by kernel_rfl) (of_decide_eq_true (by kernel_rfl)) k0 bel lt0) (trodAll_cons_mk (Below.trod laidOut (by kernel_rfl) (of_decide_eq_true (by kernel_rfl)) k1 bel lt1) (trodAll_cons_mk (shut_bool Tryz.underlying4 _) trodAll_mk0))), rfl, bel.frame _, fun h => by cases h⟩

set_option maxRecDepth 100000 in
theorem lifted (os : Os) (started : os.Started) (H : Type) (enc : TypeId × Value → H) (F : Stop.Interp) :
    ReturnsInHanded {} Tryz.checked os 7 .any ((Rows.OpenSpec.upto Rows.cloneTellsSpec).pre6 enc Tryz.prog Tryz.f7 Rows.cloneTellsUptoRow.domain false) (((Rows.OpenSpec.upto Rows.cloneTellsSpec).at F).post enc Tryz.prog Tryz.f7 false true false false) := by
  refine returnsInHanded_of_cond (C := Tryz.checked) (s := Rows.OpenSpec.upto Rows.cloneTellsSpec) (k := Rows.uptoSmall) rfl own started (by kernel_rfl) Tryz.func7
    (OpenSpec.witness (enc := enc) (C := Tryz.checked) (s := Rows.OpenSpec.upto Rows.cloneTellsSpec) (k := Rows.uptoSmall) rfl false ⟨#[], #[.slice none 0 0, .slice none 0 0, .bool false], []⟩ 30 (by kernel_rfl) (by kernel_rfl) (by kernel_rfl)
      (x := ([.nil, .nil, .lit (.bool false)], [], [])) (by kernel_rfl) rfl (by kernel_rfl)) ?_
  intro W base args ds gs before hval hW _ hk _
  exact contract H enc W base args ds gs before hval hW hk

set_option maxRecDepth 100000 in
set_option maxHeartbeats 4000000 in
theorem closed : joinedFacts Tryz.checked.prog 7 Tryz.f7 (Rows.OpenSpec.upto Rows.cloneTellsSpec).bare Rows.cloneTellsUptoRow = true := by
  unfold joinedFacts
  simp only [Bool.and_eq_true]
  repeat' apply And.intro
  all_goals as_aux_lemma => kernel_rfl
theorem named : Tryz.checked.prog.funcNamed Rows.cloneTellsUptoRow.func = some 7 := by kernel_rfl

theorem proved : Rows.CloneTellsUptoSaid :=
  OpenClaim.holds_of_cond 7 Tryz.f7 rfl rfl rfl rfl rfl rfl rfl ⟨rfl, rfl, rfl, rfl, rfl⟩ rfl rfl rfl rfl rfl named Tryz.func7 closed
    (of_decide_eq_true (by kernel_rfl)) (by unfold Func.isWrapper; first | (rw [if_pos (by decide +kernel)]; kernel_rfl) | (rw [if_neg (by decide +kernel)]; exact ⟨rfl, rfl⟩))
    (fun os started H enc _ F => lifted os started H enc F)
end Go.Proofs.YtfeinppedejlpaaGreat.cloneTellsUpto

namespace Go.Proofs.YtfeinppedejlpaaGreat
theorem cloneTellsUpto_holds : Rows.CloneTellsUptoSaid := cloneTellsUpto.proved
#print axioms cloneTellsUpto_holds
end Go.Proofs.YtfeinppedejlpaaGreat
