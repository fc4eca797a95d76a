/-
  Of a document behind any calls, an element that is given an id is found by it, once, and first; taken away it is not; proved for calls and texts whose bulk is at most 1048576 (the given second form).
-/
import Derived.Test.YtojbjiopilkbgaaGreatRows
import Derived.Test.YtojbjiopilkbgaaGreatVSw
import Derived.WalkKit
import Derived.ProofKit
import Derived.OpenShut
import Derived.ShutString
import Derived.ChangeOld
import Derived.Below
import Derived.SizedLaws
import Derived.JoinedCond
namespace Go.Proofs.YtojbjiopilkbgaaGreat.querySetsUpto
open Go.ChangeShapes Go.WideShapes Go.ChangeAt Go.RowKit Go.Deep
set_option linter.unusedVariables false

theorem own : ownKnob Tryz.prog.godebug = none := by kernel_rfl
theorem laidOut : laidOutB Tryz.prog = true := by kernel_rfl

set_option maxRecDepth 100000 in
theorem contract (H : Type) (enc : TypeId × Value → H) (W : World) (base : Nat) (args : Array Value) (ds gs : List (DataW H)) (before : List MemPlace)
    (hval0 : ∀ (j : Nat) t v, Tryz.f9.params[j]? = some t → args[j]? = some v → Value.okWide Tryz.prog W .any base t v)
    (hW : DataW.Whole enc Tryz.prog Tryz.f9.params.toList Rows.querySetsSpec.vars false W args.toList ds gs before) (hk : Rows.uptoSmall H (ds ++ gs) = true) :
    Calls Tryz.prog 9 args W fun e W' => ∃ v, e = .returned v ∧ Rows.querySetsSpec.post enc Tryz.prog Tryz.f9 false true false false W args v W' := by
  have hval : ∀ (j : Nat) t v, Tryz.f9.params[j]? = some t → args[j]? = some v → Value.okWide Tryz.prog W .any base t v := hval0
  have hW' := hW
  obtain ⟨p, q, hA0, hV, rfl, hfz, hnd⟩ := hW
  have hA : DataW.TrodAll enc Tryz.prog W 0 (fun _ => true) true Tryz.f9.params.toList args.toList ds p := hA0
  rw [Tryz.params9] at hA hval
  obtain ⟨v0, vs0, d0, ds0, p0, q0, hargs, rfl, rfl, h0, r0⟩ := trodAll_cons hA
  obtain ⟨v1, vs1, d1, ds1, p1, q1, hargs1, rfl, rfl, h1, r1⟩ := trodAll_cons r0
  obtain ⟨v2, vs2, d2, ds2, p2, q2, hargs2, rfl, rfl, h2, r2⟩ := trodAll_cons r1
  obtain ⟨rfl, rfl, rfl⟩ := trodAll_nil r2
  obtain rfl : args = #[v0, v1, v2] := by cases args; simp_all
  obtain ⟨rfl, rfl⟩ := trodVars_none hV
  have k0 := h0
  have lt0 : ∀ x ∈ p0, x.block < W.heap.size := by obtain ⟨m, hm⟩ := k0; exact DataW.trod_lt m _ _ _ hm
  obtain ⟨a0, len0, cap0, hv0⟩ := okWide_slice Tryz.underlying22 (hval 0 22 v0 rfl rfl)
  obtain ⟨a0, c0, l0, hs0, hO0, hok0, hmx0, hbk0⟩ : ∃ (a : Option Addr) (c : Nat) (l : List Opx), v0 = .slice a l.length c ∧ Zfo (fun k => k < W.heap.size) W a l ∧ (∀ o ∈ l, Zkz o) ∧ l.length ≤ maxLen ∧ zcd l ≤ Rows.uptoBulk d0 := by
    obtain ⟨fuel, hf⟩ := h0
    have hc : Value.cells v0 = #[v0] := by rw [hv0]; rfl
    rw [hc] at hf
    exact zrh hf
  subst hs0
  obtain ⟨z1, rfl, rfl, rfl, w1⟩ := open_int Tryz.underlying31 (hval 1 31 v1 rfl rfl) h1
  obtain ⟨s2, rfl, rfl, rfl, w2⟩ := Go.ChangeMaps.open_string Tryz.underlying9 (hval 2 9 v2 rfl rfl) h2
  have hbulk : Rows.uptoBulk d0 ≤ 1048576 := by
    have h : Rows.uptoBulkAll (_ ++ []) ≤ 1048576 := of_decide_eq_true hk
    simp only [List.append_nil, Rows.uptoBulkAll] at h
    omega
  clear hA0 hval0
  have hwalk : Calls Tryz.prog 9 #[.slice a0 l0.length c0, .int .u16 z1, .string s2] W fun e w' => e = .returned (.bool true) ∧ Kept (fun k => k < W.heap.size) W w' := by
    obtain ⟨za, rfl⟩ : ∃ n : Nat, z1 = (n : Int) := ⟨z1.toNat, by have := (zr7 w1).1; omega⟩
    by_cases c60 : l0.length ≤ 60
    · have rh := zbw l0 l0.length rfl c60 a0 c0 (by omega) W hO0
      by_cases c6 : zcd l0 ≤ 6000
      · by_cases cs : s2.size ≤ 300
        · by_cases c0' : s2.toList = []
          · exact qsets_no a0 l0.length c0 W za s2 _ rh (.inr (.inr c0'))
          · exact qsets_go l0 l0.length rfl c60 a0 c0 hok0 c6 W hO0 za (by have := (zr7 w1).2; omega) s2 cs c0'
        · exact qsets_no a0 l0.length c0 W za s2 _ rh (.inr (.inl (by omega)))
      · exact qsets_no a0 l0.length c0 W za s2 _ rh (.inl (decide_eq_true (by omega)))
    · exact qsets_no a0 l0.length c0 W za s2 _ (zqx l0.length (by omega) a0 c0 W) (.inl rfl)
  refine hwalk.mono fun e W' ⟨he, bel0⟩ => ?_
  have bel := bel0.below
  subst he
  exact ⟨_, rfl, _, _, _, [], _, [], hW', trodAll_mk1 (shut_bool Tryz.underlying4 _), (trodAll_cons_mk (Below.trod laidOut (by kernel_rfl) (of_decide_eq_true (by kernel_rfl)) k0 bel lt0) (trodAll_cons_mk (shut_int Tryz.underlying31 w1) (trodAll_cons_mk (Go.ChangeMaps.shut_string Tryz.underlying9 w2) trodAll_mk0))), rfl, bel.frame _, fun h => by cases h⟩

set_option maxRecDepth 100000 in
theorem lifted (os : Os) (started : os.Started) (H : Type) (enc : TypeId × Value → H) (F : Stop.Interp) :
    ReturnsInHanded {} Tryz.checked os 9 .any ((Rows.OpenSpec.upto Rows.querySetsSpec).pre6 enc Tryz.prog Tryz.f9 Rows.querySetsUptoRow.domain false) (((Rows.OpenSpec.upto Rows.querySetsSpec).at F).post enc Tryz.prog Tryz.f9 false true false false) := by
  refine returnsInHanded_of_cond (C := Tryz.checked) (s := Rows.OpenSpec.upto Rows.querySetsSpec) (k := Rows.uptoSmall) rfl own started (by kernel_rfl) Tryz.func9
    (OpenSpec.witness (enc := enc) (C := Tryz.checked) (s := Rows.OpenSpec.upto Rows.querySetsSpec) (k := Rows.uptoSmall) rfl false ⟨#[], #[.slice none 0 0, .int .u16 0, .string ⟨#[]⟩], []⟩ 30 (by kernel_rfl) (by kernel_rfl) (by kernel_rfl)
      (x := ([.nil, .lit (.int .u16 0), .lit (.string [])], [], [])) (by kernel_rfl) rfl (by kernel_rfl)) ?_
  intro W base args ds gs before hval hW _ hk _
  exact contract H enc W base args ds gs before hval hW hk

set_option maxRecDepth 100000 in
set_option maxHeartbeats 4000000 in
theorem closed : joinedFacts Tryz.checked.prog 9 Tryz.f9 (Rows.OpenSpec.upto Rows.querySetsSpec).bare Rows.querySetsUptoRow = true := by
  unfold joinedFacts
  simp only [Bool.and_eq_true]
  repeat' apply And.intro
  all_goals as_aux_lemma => kernel_rfl
theorem named : Tryz.checked.prog.funcNamed Rows.querySetsUptoRow.func = some 9 := by kernel_rfl

theorem proved : Rows.QuerySetsUptoSaid :=
  OpenClaim.holds_of_cond 9 Tryz.f9 rfl rfl rfl rfl rfl rfl rfl ⟨rfl, rfl, rfl, rfl, rfl⟩ rfl rfl rfl rfl rfl named Tryz.func9 closed
    (of_decide_eq_true (by kernel_rfl)) (by unfold Func.isWrapper; first | (rw [if_pos (by decide +kernel)]; kernel_rfl) | (rw [if_neg (by decide +kernel)]; exact ⟨rfl, rfl⟩))
    (fun os started H enc _ F => lifted os started H enc F)
end Go.Proofs.YtojbjiopilkbgaaGreat.querySetsUpto

namespace Go.Proofs.YtojbjiopilkbgaaGreat
theorem querySetsUpto_holds : Rows.QuerySetsUptoSaid := querySetsUpto.proved
#print axioms querySetsUpto_holds
end Go.Proofs.YtojbjiopilkbgaaGreat
