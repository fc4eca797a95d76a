/-
  For every row of attributes, every byte and every text the Go function portierelaw08.DomSets returns true, and its arguments read afterwards as before.
-/
import Derived.Test.YtbbknbipppaemaaRows
import Derived.Test.YtbbknbipppaemaaHi
import Derived.WalkKit
import Derived.ProofKit
import Derived.OpenShut
import Derived.ShutString
import Derived.ChangeOld
import Derived.SizedLaws
import Derived.Below
import Derived.Deep.SlicePairs
namespace Go.Proofs.Ytbbknbipppaemaa.domSets
open Go.ChangeShapes Go.WideShapes Go.ChangeAt Go.RowKit
open Go.ChangeMaps (open_string shut_string)
set_option linter.unusedVariables false

theorem own : ownKnob Try.prog.godebug = none := by kernel_rfl
theorem laidOut : laidOutB Try.prog = true := by kernel_rfl
theorem reachBytes_lt : reachBytes ≤ 140737488355328 := by unfold reachBytes; decide
theorem weightsAll_mem {H : Type} {P : Program} {e : TypeId} : ∀ {ds : List (DataW H)} {d : DataW H}, d ∈ ds → ∀ n ∈ d.weights P e, n ∈ DataW.weightsAll P e ds
  | x :: r, d, hd, n, hn => by
    simp only [DataW.weightsAll, List.mem_append]
    rcases List.mem_cons.1 hd with rfl | h
    · exact .inl hn
    · exact .inr (weightsAll_mem h n hn)
/-- Attributes that came in. -/
structure IsAts (w : World) (a : Option Addr) (len : Nat) (l : List Atr) : Prop where
  lenE : l.length = len
  lm : len ≤ 9223372036854775807
  ats : AtsAt (fun k => k < w.heap.size) w a l
  sz : ∀ x ∈ l, x.name.length ≤ 140737488355328 ∧ x.value.length ≤ 140737488355328

theorem walk (a0 : Option Addr) (len0 cap0 : Nat) (l : List Atr) (a1 : Int) (a2 : ByteArray) (w : World) (w0 : IsAts w a0 len0 l) (w1 : (Lit.int .u8 a1).wf = true) (w2 : a2.size ≤ 140737488355328) :
    Calls Try.prog 3 #[.slice a0 len0 cap0, .int .u8 a1, .string a2] w fun e w' => e = .returned (.bool true) ∧ Below w.heap.size w w' := by
  have hw : 0 ≤ a1 ∧ a1 ≤ 255 := by simpa [Lit.wf, IntKind.min, IntKind.max, IntKind.signed, IntKind.bits] using w1
  have e2 : (⟨a2.toList.toArray⟩ : ByteArray) = a2 := by rw [ByteArray.toList_eq]
  have s2 : a2.toList.length = a2.size := by rw [ByteArray.toList_eq]; rfl
  by_cases hb : 40 < len0 ∨ 500 < a2.size ∨ 5000 < sumA l len0
  · exact (sets_long l a0 len0 cap0 w0.lenE a1 a2 w w0.lm w0.ats w0.sz w2 hb).mono fun e w' h => ⟨h.1, h.2.below⟩
  · have h1 : ¬ 40 < len0 := fun h => hb (.inl h)
    have h2 : ¬ 500 < a2.size := fun h => hb (.inr (.inl h))
    have h3 : ¬ 5000 < sumA l len0 := fun h => hb (.inr (.inr h))
    have := sets_go l a0 len0 cap0 w0.lenE a1 hw.1 hw.2 a2.toList w w0.ats (by omega) (by omega) (by omega)
    rw [e2] at this
    exact this.mono fun e w' h => ⟨h.1, h.2.below⟩

set_option maxRecDepth 100000 in
theorem lifted (os : Os) (started : os.Started) (H : Type) (enc : TypeId × Value → H) :
    ReturnsInHanded {} Try.checked os 3 .any (Rows.domSetsSpec.pre6 enc Try.prog Try.f3 Rows.domSetsRow.domain false) (Rows.domSetsSpec.post enc Try.prog Try.f3 false true false false) := by
  refine returnsInHanded_of_change_sized (C := Try.checked) own started (by kernel_rfl) Try.func3
    (ChangeSpec.witness6 (enc := enc) (C := Try.checked) false ⟨#[], #[.slice none 0 0, .int .u8 0, .string ByteArray.empty], []⟩ 8 (by kernel_rfl) (by kernel_rfl) (by kernel_rfl) (by kernel_rfl)) ?_
  intro W base args ds gs before hval0 hW hcnd hsz _
  have hval : ∀ (j : Nat) t v, Try.f3.params[j]? = some t → args[j]? = some v → Value.okWide Try.prog W .any base t v := hval0
  have hW' := hW
  obtain ⟨p, q, hA0, hV, rfl, hfz, hnd⟩ := hW
  have hA : DataW.TrodAll enc Try.prog W 0 (fun _ => true) true Try.f3.params.toList args.toList ds p := hA0
  have hsz1 : (DataW.weightsEach Try.checked.prog (Try.f3.params.toList ++ Rows.domSetsSpec.plain.varTypes Try.checked.prog) (ds ++ gs)).all (· ≤ reachBytes) = true := hsz
  rw [Try.params3] at hA hval hsz1
  obtain ⟨v0, vs0, d0, ds0, p0, q0, hargs, rfl, rfl, h0, r0⟩ := trodAll_cons hA
  obtain ⟨v1, vs1, d1, ds1, p1, q1, rfl, rfl, rfl, h1, r1⟩ := trodAll_cons r0
  obtain ⟨v2, vs2, d2, ds2, p2, q2, rfl, rfl, rfl, h2, r2⟩ := trodAll_cons r1
  obtain ⟨rfl, rfl, rfl⟩ := trodAll_nil r2
  obtain rfl : args = #[v0, v1, v2] := by cases args; simp_all
  obtain ⟨rfl, rfl⟩ := trodVars_none hV
  obtain ⟨a0, len0, cap0, rfl⟩ := okWide_slice Try.underlying22 (hval 0 22 v0 rfl rfl)
  obtain ⟨a1, rfl, rfl, rfl, w1⟩ := open_int Try.underlying5 (hval 1 5 v1 rfl rfl) h1
  obtain ⟨a2, rfl, rfl, rfl, w2⟩ := open_string Try.underlying9 (hval 2 9 v2 rfl rfl) h2
  have k0 := h0
  have lt0 : ∀ x ∈ p0, x.block < W.heap.size := by obtain ⟨m, hm⟩ := k0; exact DataW.trod_lt m _ _ _ hm
  have hall := List.all_eq_true.1 hsz1
  have hrb := reachBytes_lt
  have s2 : a2.size ≤ 140737488355328 := by
    have h := hall a2.data.toList.length (DataW.weights_mem_each (j := 2) (t := 9) rfl rfl _ (by simp [DataW.weights]))
    have h' : a2.data.toList.length ≤ reachBytes := by simpa using h
    have e : a2.data.toList.length = a2.size := rfl
    omega
  obtain ⟨l, wl⟩ : ∃ l, IsAts W a0 len0 l := by
    obtain ⟨fuel, hf⟩ := h0
    rcases Go.Deep.open_slice_pairs Try.underlying22 Try.underlying24 (by kernel_rfl) rfl rfl (by kernel_rfl) (by kernel_rfl) hf with ⟨hcs, _⟩ | ⟨x, l, c, m, n, V0, V1, D0, D1, P0, P1, hcs, _, hl, hm, hmm, hx, hcell⟩
    · simp [Value.cells] at hcs
      obtain ⟨rfl, rfl, rfl⟩ := hcs
      exact ⟨[], rfl, by omega, AtsAt.nil _ _ _, fun x hx => by cases hx⟩
    · simp [Value.cells] at hcs
      obtain ⟨rfl, rfl, rfl⟩ := hcs
      have hlm : len0 ≤ m := by rw [hmm]; split <;> omega
      have hd : d0 = .slice ((List.range len0).map fun i => .agg [D0 i, D1 i]) ((List.range (m - len0)).map fun j => .agg [D0 (len0 + j), D1 (len0 + j)]) := congrArg Prod.fst hx
      have each : ∀ i, ∃ s : ByteArray × ByteArray, i < len0 → W.cell? (x.add (i * 2)) = some (.string s.1) ∧ W.cell? (x.add (i * 2 + 1)) = some (.string s.2) ∧ s.1.size ≤ 140737488355328 ∧ s.2.size ≤ 140737488355328 := by
        intro i
        by_cases hi : i < len0
        · obtain ⟨g0, g1, t0, t1⟩ := hcell i (by omega)
          obtain ⟨s, es, xs, _⟩ := DataW.trod_string Try.underlying9 t0
          obtain ⟨s', es', xs', _⟩ := DataW.trod_string Try.underlying9 t1
          injection es with es
          injection es' with es'
          have hD0 : D0 i = .lit (.string s.data.toList) := congrArg Prod.fst xs
          have hD1 : D1 i = .lit (.string s'.data.toList) := congrArg Prod.fst xs'
          have hu : Try.checked.prog.underlying 22 = some (.slice 24) := Try.underlying22
          have hu2 : Try.checked.prog.underlying 24 = Try.prog.underlying 24 := rfl
          have mem : ∀ z, z ∈ DataW.weights (H := H) Try.checked.prog 24 (.agg [D0 i, D1 i]) → z ≤ 140737488355328 := fun z hz => by
            have hmem : z ∈ DataW.weights (H := H) Try.checked.prog 22 d0 := by
              rw [hd]
              simp only [DataW.weights, hu, List.mem_cons, List.mem_append]
              exact .inr (.inl (weightsAll_mem (d := .agg [D0 i, D1 i]) (List.mem_map.2 ⟨i, List.mem_range.2 hi, rfl⟩) _ hz))
            have h1 := hall _ (DataW.weights_mem_each (j := 0) (t := 22) rfl rfl _ hmem)
            have h1' : z ≤ reachBytes := by simpa using h1
            omega
          have hw : DataW.weights (H := H) Try.checked.prog 24 (.agg [D0 i, D1 i]) = [s.data.toList.length, s'.data.toList.length] := by
            rw [hD0, hD1]
            simp only [DataW.weights, hu2, Try.underlying24]
            rfl
          refine ⟨(s, s'), fun _ => ⟨by rw [g0, es], by rw [g1, es'], mem s.data.toList.length (by rw [hw]; simp), mem s'.data.toList.length (by rw [hw]; simp)⟩⟩
        · exact ⟨(ByteArray.empty, ByteArray.empty), fun h => absurd h hi⟩
      obtain ⟨F, hF⟩ := Classical.axiomOfChoice each
      refine ⟨(List.range len0).map fun i => ⟨(F i).1.toList, (F i).2.toList⟩, by simp, by unfold maxLen at hm; omega, fun j hj => ?_, fun y hy => ?_⟩
      · have hj' : j < len0 := by simpa using hj
        obtain ⟨f0, f1, _⟩ := hF j hj'
        obtain ⟨z0, _⟩ := hF 0 (by omega)
        obtain ⟨xb, xo, xs⟩ := x
        have hsp : xs = none := by simpa [Addr.add] using World.cell?_spot z0
        subst hsp
        rw [Addr.add_lit] at f0 f1
        refine ⟨xb, xo, rfl, World.block_lt_of_cell? W _ f0, ?_, ?_⟩
        · rw [f0]; simp [sv, ByteArray.toList_eq]
        · rw [show xo + j * 2 + 1 = xo + (j * 2 + 1) by omega, f1]; simp [sv, ByteArray.toList_eq]
      · obtain ⟨i, hi, rfl⟩ := List.mem_map.1 hy
        obtain ⟨_, _, f2, f3⟩ := hF i (List.mem_range.1 hi)
        have e1 : ((F i).1.toList).length = (F i).1.size := by rw [ByteArray.toList_eq]; rfl
        have e2 : ((F i).2.toList).length = (F i).2.size := by rw [ByteArray.toList_eq]; rfl
        exact ⟨by show ((F i).1.toList).length ≤ _; omega, by show ((F i).2.toList).length ≤ _; omega⟩
  clear hA0 hval0
  refine (walk a0 len0 cap0 l a1 a2 W wl w1 s2).mono fun e W' ⟨he, bel⟩ => ?_
  subst he
  exact ⟨_, rfl, _, _, _, [], _, [], hW', trodAll_mk1 (shut_bool Try.underlying4 _), (trodAll_cons_mk (Below.trod laidOut (by kernel_rfl) (of_decide_eq_true (by kernel_rfl)) k0 bel lt0) (trodAll_cons_mk (shut_int Try.underlying5 w1) (trodAll_cons_mk (shut_string Try.underlying9 w2) trodAll_mk0))), rfl, bel.frame _, fun h => by cases h⟩

theorem over : Rows.domSetsRow.holds Try.pinned (OpenSpec.ofChange Rows.domSetsSpec) :=
  OpenClaim.holds_of_wide 3 Try.f3 rfl rfl rfl rfl rfl rfl rfl ⟨rfl, rfl, rfl, rfl, rfl⟩ rfl rfl rfl rfl rfl (by kernel_rfl) Try.func3 (by kernel_rfl)
    (of_decide_eq_true (by kernel_rfl)) (by unfold Func.isWrapper; first | (rw [if_pos (by decide +kernel)]; kernel_rfl) | (rw [if_neg (by decide +kernel)]; exact ⟨rfl, rfl⟩))
    (fun os started H enc _ => lifted os started H enc)

theorem proved : Rows.DomSetsSaid := over
#print axioms proved
end Go.Proofs.Ytbbknbipppaemaa.domSets

namespace Go.Proofs.Ytbbknbipppaemaa
theorem domSets_holds : Rows.DomSetsSaid := domSets.proved
#print axioms domSets_holds
end Go.Proofs.Ytbbknbipppaemaa
