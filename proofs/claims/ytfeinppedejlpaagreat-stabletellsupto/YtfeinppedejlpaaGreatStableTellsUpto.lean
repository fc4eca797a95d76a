/-
  StableTells: Stable and Same answer as the document says.
-/
import Derived.Test.YtfeinppedejlpaaGreatRows
import Derived.Test.YtfeinppedejlpaaGreatVSm
import Derived.WalkKit
import Derived.ProofKit
import Derived.OpenShut
import Derived.ShutString
import Derived.ChangeOld
import Derived.Below
import Derived.SizedLaws
import Derived.JoinedCond
namespace Go.Proofs.YtfeinppedejlpaaGreat.stableTellsUpto
open Go.ChangeShapes Go.WideShapes Go.ChangeAt Go.RowKit Go.Deep
set_option linter.unusedVariables false

theorem own : ownKnob Tryz.prog.godebug = none := by kernel_rfl
theorem laidOut : laidOutB Tryz.prog = true := by kernel_rfl

set_option maxRecDepth 100000 in
theorem contract (H : Type) (enc : TypeId × Value → H) (W : World) (base : Nat) (args : Array Value) (ds gs : List (DataW H)) (before : List MemPlace)
    (hval0 : ∀ (j : Nat) t v, Tryz.f10.params[j]? = some t → args[j]? = some v → Value.okWide Tryz.prog W .any base t v)
    (hW : DataW.Whole enc Tryz.prog Tryz.f10.params.toList Rows.stableTellsSpec.vars false W args.toList ds gs before) (hk : Rows.uptoSmall H (ds ++ gs) = true) :
    Calls Tryz.prog 10 args W fun e W' => ∃ v, e = .returned v ∧ Rows.stableTellsSpec.post enc Tryz.prog Tryz.f10 false true false false W args v W' := by
  have hval : ∀ (j : Nat) t v, Tryz.f10.params[j]? = some t → args[j]? = some v → Value.okWide Tryz.prog W .any base t v := hval0
  have hW' := hW
  obtain ⟨p, q, hA0, hV, rfl, hfz, hnd⟩ := hW
  have hA : DataW.TrodAll enc Tryz.prog W 0 (fun _ => true) true Tryz.f10.params.toList args.toList ds p := hA0
  rw [Tryz.params10] at hA hval
  obtain ⟨v0, vs0, d0, ds0, p0, q0, hargs, rfl, rfl, h0, r0⟩ := trodAll_cons hA
  obtain ⟨v1, vs1, d1, ds1, p1, q1, hargs1, rfl, rfl, h1, r1⟩ := trodAll_cons r0
  obtain ⟨v2, vs2, d2, ds2, p2, q2, hargs2, rfl, rfl, h2, r2⟩ := trodAll_cons r1
  obtain ⟨v3, vs3, d3, ds3, p3, q3, hargs3, rfl, rfl, h3, r3⟩ := trodAll_cons r2
  obtain ⟨rfl, rfl, rfl⟩ := trodAll_nil r3
  obtain rfl : args = #[v0, v1, v2, v3] := by cases args; simp_all
  obtain ⟨rfl, rfl⟩ := trodVars_none hV
  have k0 := h0
  have lt0 : ∀ x ∈ p0, x.block < W.heap.size := by obtain ⟨m, hm⟩ := k0; exact DataW.trod_lt m _ _ _ hm
  obtain ⟨a0, len0, cap0, hv0⟩ := okWide_slice Tryz.underlying22 (hval 0 22 v0 rfl rfl)
  obtain ⟨a0, c0, l0, hs0, hO0, hok0, hmx0, hbk0⟩ : ∃ (a : Option Addr) (c : Nat) (l : List Opx), v0 = .slice a l.length c ∧ Zd6 (fun k => k < W.heap.size) W a l ∧ (∀ o ∈ l, Zkj o) ∧ l.length ≤ maxLen ∧ zcg l ≤ Rows.uptoBulk d0 := by
    obtain ⟨fuel, hf⟩ := h0
    have hc : Value.cells v0 = #[v0] := by rw [hv0]; rfl
    rw [hc] at hf
    exact zjx hf
  subst hs0
  have k1 := h1
  have lt1 : ∀ x ∈ p1, x.block < W.heap.size := by obtain ⟨m, hm⟩ := k1; exact DataW.trod_lt m _ _ _ hm
  obtain ⟨a1, len1, cap1, hv1⟩ := okWide_slice Tryz.underlying22 (hval 1 22 v1 rfl rfl)
  obtain ⟨a1, c1, l1, hs1, hO1, hok1, hmx1, hbk1⟩ : ∃ (a : Option Addr) (c : Nat) (l : List Opx), v1 = .slice a l.length c ∧ Zd6 (fun k => k < W.heap.size) W a l ∧ (∀ o ∈ l, Zkj o) ∧ l.length ≤ maxLen ∧ zcg l ≤ Rows.uptoBulk d1 := by
    obtain ⟨fuel, hf⟩ := h1
    have hc : Value.cells v1 = #[v1] := by rw [hv1]; rfl
    rw [hc] at hf
    exact zjx hf
  subst hs1
  obtain ⟨z2, rfl, rfl, rfl, w2⟩ := open_int Tryz.underlying3 (hval 2 3 v2 rfl rfl) h2
  obtain ⟨z3, rfl, rfl, rfl, w3⟩ := open_int Tryz.underlying3 (hval 3 3 v3 rfl rfl) h3
  have hbulk : Rows.uptoBulk d0 + Rows.uptoBulk d1 ≤ 1048576 := by
    have h : Rows.uptoBulkAll (_ ++ []) ≤ 1048576 := of_decide_eq_true hk
    simp only [List.append_nil, Rows.uptoBulkAll] at h
    omega
  clear hA0 hval0
  have hwalk : Calls Tryz.prog 10 #[.slice a0 l0.length c0, .slice a1 l1.length c1, .int .i64 z2, .int .i64 z3] W fun e w' => e = .returned (.bool true) ∧ Kept (fun k => k < W.heap.size) W w' := by
    have HV : ∀ (l : List Opx) (a : Option Addr) (c : Nat), zcg l ≤ 2000000 → Zd6 (fun k => k < W.heap.size) W a l → ∃ hb : Bool, (∀ X, Kept (fun k => k < W.heap.size) W X → Calls Tryz.prog 63 #[.slice a l.length c] X fun e w' => e = .returned (.bool hb) ∧ Kept (fun k => k < X.heap.size) X w') ∧ (hb = false → l.length ≤ 60 ∧ zcg l ≤ 6000) := fun l a c h2 hO => by
      by_cases c60 : l.length ≤ 60
      · refine ⟨decide (6000 < zcg l), fun X hX => zdn l l.length rfl c60 a c h2 X (hO.kept hX fun k hk => ltl hk hX.size), fun h => ⟨c60, ?_⟩⟩
        have := of_decide_eq_false h
        omega
      · exact ⟨true, fun X hX => znl l.length (by omega) a c X, fun h => (by cases h)⟩
    obtain ⟨h1, r1, g1⟩ := HV l0 a0 c0 (by omega) hO0
    obtain ⟨h2, r2, g2⟩ := HV l1 a1 c1 (by omega) hO1
    by_cases c : h1 = true ∨ h2 = true
    · exact zm3 a0 a1 l0.length c0 l1.length c1 z2 z3 W h1 h2 (r1 W (Kept.refl _ _)) r2 c
    · have e1 : h1 = false := by
        cases h1 with
        | false => rfl
        | true => exact absurd (.inl rfl) c
      have e2 : h2 = false := by
        cases h2 with
        | false => rfl
        | true => exact absurd (.inr rfl) c
      exact zoq l0 l1 _ _ rfl rfl (g1 e1).1 (g2 e2).1 a0 a1 c0 c1 hok0 hok1 (g1 e1).2 (g2 e2).2 W hO0 hO1 z2 z3
  refine hwalk.mono fun e W' ⟨he, bel0⟩ => ?_
  have bel := bel0.below
  subst he
  exact ⟨_, rfl, _, _, _, [], _, [], hW', trodAll_mk1 (shut_bool Tryz.underlying4 _), (trodAll_cons_mk (Below.trod laidOut (by kernel_rfl) (of_decide_eq_true (by kernel_rfl)) k0 bel lt0) (trodAll_cons_mk (Below.trod laidOut (by kernel_rfl) (of_decide_eq_true (by kernel_rfl)) k1 bel lt1) (trodAll_cons_mk (shut_int Tryz.underlying3 w2) (trodAll_cons_mk (shut_int Tryz.underlying3 w3) trodAll_mk0)))), rfl, bel.frame _, fun h => by cases h⟩

set_option maxRecDepth 100000 in
theorem lifted (os : Os) (started : os.Started) (H : Type) (enc : TypeId × Value → H) (F : Stop.Interp) :
    ReturnsInHanded {} Tryz.checked os 10 .any ((Rows.OpenSpec.upto Rows.stableTellsSpec).pre6 enc Tryz.prog Tryz.f10 Rows.stableTellsUptoRow.domain false) (((Rows.OpenSpec.upto Rows.stableTellsSpec).at F).post enc Tryz.prog Tryz.f10 false true false false) := by
  refine returnsInHanded_of_cond (C := Tryz.checked) (s := Rows.OpenSpec.upto Rows.stableTellsSpec) (k := Rows.uptoSmall) rfl own started (by kernel_rfl) Tryz.func10
    (OpenSpec.witness (enc := enc) (C := Tryz.checked) (s := Rows.OpenSpec.upto Rows.stableTellsSpec) (k := Rows.uptoSmall) rfl false ⟨#[], #[.slice none 0 0, .slice none 0 0, .int .i64 0, .int .i64 0], []⟩ 30 (by kernel_rfl) (by kernel_rfl) (by kernel_rfl)
      (x := ([.nil, .nil, .lit (.int .i64 0), .lit (.int .i64 0)], [], [])) (by kernel_rfl) rfl (by kernel_rfl)) ?_
  intro W base args ds gs before hval hW _ hk _
  exact contract H enc W base args ds gs before hval hW hk

set_option maxRecDepth 100000 in
set_option maxHeartbeats 4000000 in
theorem closed : joinedFacts Tryz.checked.prog 10 Tryz.f10 (Rows.OpenSpec.upto Rows.stableTellsSpec).bare Rows.stableTellsUptoRow = true := by
  unfold joinedFacts
  simp only [Bool.and_eq_true]
  repeat' apply And.intro
  all_goals as_aux_lemma => kernel_rfl
theorem named : Tryz.checked.prog.funcNamed Rows.stableTellsUptoRow.func = some 10 := by kernel_rfl

theorem proved : Rows.StableTellsUptoSaid :=
  OpenClaim.holds_of_cond 10 Tryz.f10 rfl rfl rfl rfl rfl rfl rfl ⟨rfl, rfl, rfl, rfl, rfl⟩ rfl rfl rfl rfl rfl named Tryz.func10 closed
    (of_decide_eq_true (by kernel_rfl)) (by unfold Func.isWrapper; first | (rw [if_pos (by decide +kernel)]; kernel_rfl) | (rw [if_neg (by decide +kernel)]; exact ⟨rfl, rfl⟩))
    (fun os started H enc _ F => lifted os started H enc F)
end Go.Proofs.YtfeinppedejlpaaGreat.stableTellsUpto

namespace Go.Proofs.YtfeinppedejlpaaGreat
theorem stableTellsUpto_holds : Rows.StableTellsUptoSaid := stableTellsUpto.proved
#print axioms stableTellsUpto_holds
end Go.Proofs.YtfeinppedejlpaaGreat
