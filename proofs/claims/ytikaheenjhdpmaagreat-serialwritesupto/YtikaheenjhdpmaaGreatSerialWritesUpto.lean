/-
  For every slice of calls, every number and all options whose bulk is at most 1048576, the Go function portierelaw16.SerialWrites returns true, and its arguments read afterwards as before.
-/
import Derived.Test.YtikaheenjhdpmaaGreatRows
import Derived.Test.YtikaheenjhdpmaaGreatVWn
import Derived.WalkKit
import Derived.ProofKit
import Derived.OpenShut
import Derived.ShutString
import Derived.ChangeOld
import Derived.Below
import Derived.SizedLaws
import Derived.JoinedCond
namespace Go.Proofs.YtikaheenjhdpmaaGreat.serialWritesUpto
open Go.ChangeShapes Go.WideShapes Go.ChangeAt Go.RowKit Go.Deep
set_option linter.unusedVariables false

theorem own : ownKnob Tryz.prog.godebug = none := by kernel_rfl
theorem laidOut : laidOutB Tryz.prog = true := by kernel_rfl

set_option maxRecDepth 100000 in
theorem contract (H : Type) (enc : TypeId × Value → H) (W : World) (base : Nat) (args : Array Value) (ds gs : List (DataW H)) (before : List MemPlace)
    (hval0 : ∀ (j : Nat) t v, Tryz.f5.params[j]? = some t → args[j]? = some v → Value.okWide Tryz.prog W .any base t v)
    (hW : DataW.Whole enc Tryz.prog Tryz.f5.params.toList Rows.serialWritesSpec.vars false W args.toList ds gs before) (hk : Rows.uptoSmall H (ds ++ gs) = true) :
    Calls Tryz.prog 5 args W fun e W' => ∃ v, e = .returned v ∧ Rows.serialWritesSpec.post enc Tryz.prog Tryz.f5 false true false false W args v W' := by
  have hval : ∀ (j : Nat) t v, Tryz.f5.params[j]? = some t → args[j]? = some v → Value.okWide Tryz.prog W .any base t v := hval0
  have hW' := hW
  obtain ⟨p, q, hA0, hV, rfl, hfz, hnd⟩ := hW
  have hA : DataW.TrodAll enc Tryz.prog W 0 (fun _ => true) true Tryz.f5.params.toList args.toList ds p := hA0
  rw [Tryz.params5] at hA hval
  obtain ⟨v0, vs0, d0, ds0, p0, q0, hargs, rfl, rfl, h0, r0⟩ := trodAll_cons hA
  obtain ⟨v1, vs1, d1, ds1, p1, q1, hargs1, rfl, rfl, h1, r1⟩ := trodAll_cons r0
  obtain ⟨v2, vs2, d2, ds2, p2, q2, hargs2, rfl, rfl, h2, r2⟩ := trodAll_cons r1
  obtain ⟨rfl, rfl, rfl⟩ := trodAll_nil r2
  obtain rfl : args = #[v0, v1, v2] := by cases args; simp_all
  obtain ⟨rfl, rfl⟩ := trodVars_none hV
  have k0 := h0
  have lt0 : ∀ x ∈ p0, x.block < W.heap.size := by obtain ⟨m, hm⟩ := k0; exact DataW.trod_lt m _ _ _ hm
  obtain ⟨a0, len0, cap0, hv0⟩ := okWide_slice Tryz.underlying22 (hval 0 22 v0 rfl rfl)
  obtain ⟨a0, c0, l0, hs0, hO0, hok0, hmx0, hbk0⟩ : ∃ (a : Option Addr) (c : Nat) (l : List Opx), v0 = .slice a l.length c ∧ Zfe (fun k => k < W.heap.size) W a l ∧ (∀ o ∈ l, Zme o) ∧ l.length ≤ maxLen ∧ zcq l ≤ Rows.uptoBulk d0 := by
    obtain ⟨fuel, hf⟩ := h0
    have hc : Value.cells v0 = #[v0] := by rw [hv0]; rfl
    rw [hc] at hf
    exact zp1 hf
  subst hs0
  obtain ⟨z1, rfl, rfl, rfl, w1⟩ := open_int Tryz.underlying3 (hval 1 3 v1 rfl rfl) h1
  have k2 := h2
  have lt2 : ∀ x ∈ p2, x.block < W.heap.size := by obtain ⟨m, hm⟩ := k2; exact DataW.trod_lt m _ _ _ hm
  obtain ⟨cs2, hv2, hcz2⟩ := okWide_struct Tryz.underlying41 (hval 2 41 v2 rfl rfl)
  obtain ⟨sr2, la2, lc2, l2, hs2, hI2, hlc2, hbk2, hok2⟩ : ∃ (sr : Bool) (la : Option Addr) (lc : Nat) (l : List Int), v2 = .agg #[.bool sr, .slice la l.length lc] ∧ Za8 (fun k => k < W.heap.size) W la l ∧ l.length ≤ lc ∧ l.length + 1 ≤ Rows.uptoBulk d2 ∧ ∀ z ∈ l, IntKind.i64.min ≤ z ∧ z ≤ IntKind.i64.max := by
    obtain ⟨fuel, hf⟩ := h2
    have hc : Value.cells v2 = cs2 := by rw [hv2]; rfl
    rw [hc] at hf
    have hz2 : Tryz.prog.cellsOf 41 = 2 := by kernel_rfl
    obtain ⟨sr, la, lc, l, e, h1, h2, h3, h4⟩ := zp0 (by rw [Array.length_toList, hcz2]; exact hz2) hf
    refine ⟨sr, la, lc, l, ?_, h1, h2, h3, h4⟩
    rw [hv2]
    have : cs2 = #[.bool sr, .slice la l.length lc] := by rw [← Array.toArray_toList (xs := cs2), e]
    rw [this]
  subst hs2
  have hbulk : Rows.uptoBulk d0 + Rows.uptoBulk d2 ≤ 1048576 := by
    have h : Rows.uptoBulkAll (_ ++ []) ≤ 1048576 := of_decide_eq_true hk
    simp only [List.append_nil, Rows.uptoBulkAll] at h
    omega
  clear hA0 hval0
  have hwalk : Calls Tryz.prog 5 #[.slice a0 l0.length c0, .int .i64 z1, .agg #[.bool sr2, .slice la2 l2.length lc2]] W fun e w' => e = .returned (.bool true) ∧ Kept (fun k => k < W.heap.size) W w' := by
    have hat : ∀ X, Kept (fun k => k < W.heap.size) W X → Zfe (fun k => k < X.heap.size) X a0 l0 := fun X hX => hO0.kept hX fun k hk => ltl hk hX.size
    by_cases c60 : l0.length ≤ 60
    · by_cases c6 : zcq l0 ≤ 6000
      · by_cases cd : l2.length ≤ 60
        · exact zno l0 l0.length rfl c60 a0 c0 hok0 c6 W hO0 z1 sr2 la2 l2.length lc2 l2 rfl cd hI2
        · exact zf6 a0 l0.length c0 W z1 sr2 la2 l2.length lc2 false (fun X hX => by have := zdz l0 l0.length rfl c60 a0 c0 (by omega) X (hat X hX); rw [decide_eq_false (by omega : ¬ 6000 < zcq l0)] at this; exact this) (.inr (by omega))
      · exact zf6 a0 l0.length c0 W z1 sr2 la2 l2.length lc2 true (fun X hX => by have := zdz l0 l0.length rfl c60 a0 c0 (by omega) X (hat X hX); rw [decide_eq_true (by omega : 6000 < zcq l0)] at this; exact this) (.inl rfl)
    · exact zf6 a0 l0.length c0 W z1 sr2 la2 l2.length lc2 true (fun X hX => zol l0.length (by omega) a0 c0 X) (.inl rfl)
  refine hwalk.mono fun e W' ⟨he, bel0⟩ => ?_
  have bel := bel0.below
  subst he
  exact ⟨_, rfl, _, _, _, [], _, [], hW', trodAll_mk1 (shut_bool Tryz.underlying4 _), (trodAll_cons_mk (Below.trod laidOut (by kernel_rfl) (of_decide_eq_true (by kernel_rfl)) k0 bel lt0) (trodAll_cons_mk (shut_int Tryz.underlying3 w1) (trodAll_cons_mk (Below.trod laidOut (by kernel_rfl) (of_decide_eq_true (by kernel_rfl)) k2 bel lt2) trodAll_mk0))), rfl, bel.frame _, fun h => by cases h⟩

set_option maxRecDepth 100000 in
theorem lifted (os : Os) (started : os.Started) (H : Type) (enc : TypeId × Value → H) (F : Stop.Interp) :
    ReturnsInHanded {} Tryz.checked os 5 .any ((Rows.OpenSpec.upto Rows.serialWritesSpec).pre6 enc Tryz.prog Tryz.f5 Rows.serialWritesUptoRow.domain false) (((Rows.OpenSpec.upto Rows.serialWritesSpec).at F).post enc Tryz.prog Tryz.f5 false true false false) := by
  refine returnsInHanded_of_cond (C := Tryz.checked) (s := Rows.OpenSpec.upto Rows.serialWritesSpec) (k := Rows.uptoSmall) rfl own started (by kernel_rfl) Tryz.func5
    (OpenSpec.witness (enc := enc) (C := Tryz.checked) (s := Rows.OpenSpec.upto Rows.serialWritesSpec) (k := Rows.uptoSmall) rfl false ⟨#[], #[.slice none 0 0, .int .i64 0, .agg #[.bool false, .slice none 0 0]], []⟩ 30 (by kernel_rfl) (by kernel_rfl) (by kernel_rfl)
      (x := ([.nil, .lit (.int .i64 0), .agg [.lit (.bool false), .nil]], [], [])) (by kernel_rfl) rfl (by kernel_rfl)) ?_
  intro W base args ds gs before hval hW _ hk _
  exact contract H enc W base args ds gs before hval hW hk

set_option maxRecDepth 100000 in
set_option maxHeartbeats 4000000 in
theorem closed : joinedFacts Tryz.checked.prog 5 Tryz.f5 (Rows.OpenSpec.upto Rows.serialWritesSpec).bare Rows.serialWritesUptoRow = true := by
  unfold joinedFacts
  simp only [Bool.and_eq_true]
  repeat' apply And.intro
  all_goals as_aux_lemma => kernel_rfl
theorem named : Tryz.checked.prog.funcNamed Rows.serialWritesUptoRow.func = some 5 := by kernel_rfl

theorem proved : Rows.SerialWritesUptoSaid :=
  OpenClaim.holds_of_cond 5 Tryz.f5 rfl rfl rfl rfl rfl rfl rfl ⟨rfl, rfl, rfl, rfl, rfl⟩ rfl rfl rfl rfl rfl named Tryz.func5 closed
    (of_decide_eq_true (by kernel_rfl)) (by unfold Func.isWrapper; first | (rw [if_pos (by decide +kernel)]; kernel_rfl) | (rw [if_neg (by decide +kernel)]; exact ⟨rfl, rfl⟩))
    (fun os started H enc _ F => lifted os started H enc F)
end Go.Proofs.YtikaheenjhdpmaaGreat.serialWritesUpto

namespace Go.Proofs.YtikaheenjhdpmaaGreat
theorem serialWritesUpto_holds : Rows.SerialWritesUptoSaid := serialWritesUpto.proved
#print axioms serialWritesUpto_holds
end Go.Proofs.YtikaheenjhdpmaaGreat
