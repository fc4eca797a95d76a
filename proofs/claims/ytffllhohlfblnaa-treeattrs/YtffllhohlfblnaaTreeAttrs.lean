/-
  For every row of attributes the Go function portierelaw07.TreeAttrs returns true, and its argument reads afterwards as before.
-/
import Derived.Test.YtffllhohlfblnaaRows
import Derived.Test.YtffllhohlfblnaaTb
import Derived.WalkKit
import Derived.ProofKit
import Derived.OpenShut
import Derived.ShutString
import Derived.ChangeOld
import Derived.SizedLaws
import Derived.Below
import Derived.Deep.SlicePairs
namespace Go.Proofs.Ytffllhohlfblnaa.treeAttrs
open Go.ChangeShapes Go.WideShapes Go.ChangeAt Go.RowKit
open Go.ChangeMaps (open_string shut_string)
set_option linter.unusedVariables false

theorem own : ownKnob Try.prog.godebug = none := by kernel_rfl
theorem laidOut : laidOutB Try.prog = true := by kernel_rfl
theorem reachBytes_lt : reachBytes ≤ 140737488355328 := by unfold reachBytes; decide
theorem weightsAll_mem {H : Type} {P : Program} {e : TypeId} : ∀ {ds : List (DataW H)} {d : DataW H}, d ∈ ds → ∀ n ∈ d.weights P e, n ∈ DataW.weightsAll P e ds
  | x :: r, d, hd, n, hn => by
    simp only [DataW.weightsAll, List.mem_append]
    rcases List.mem_cons.1 hd with rfl | h
    · exact .inl hn
    · exact .inr (weightsAll_mem h n hn)
theorem bytes41 : Try.prog.bytesOf 41 = 32 := by kernel_rfl
theorem cells41 : Try.prog.cellsOf 41 = 2 := by kernel_rfl
theorem one9 : Try.prog.cellsOf 9 = 1 := by kernel_rfl

/-- A row of attributes that came in: what it reads as, and its bounds. -/
theorem open_ats {H : Type} {enc : TypeId × Value → H} {W : World} {fuel : Nat} {v : Value} {d : DataW H} {pl : List MemPlace} (h : DataW.trod enc Try.prog W 0 (fun _ => true) true fuel 36 [v] = some (d, pl)) (hw : ∀ z ∈ DataW.weights Try.prog 36 d, z ≤ 140737488355328) :
    ∃ (aa : Option Addr) (ac : Nat) (l : List Atr), v = .slice aa l.length ac ∧ AtsIn (fun k => k < W.heap.size) W aa l ∧ l.length ≤ ac ∧ l.length ≤ 140737488355328 ∧ ∀ x ∈ l, x.name.length ≤ 140737488355328 ∧ x.value.length ≤ 140737488355328 := by
  rcases Go.Deep.open_slice_pairs Try.underlying36 Try.underlying41 cells41 rfl rfl one9 one9 h with ⟨hcs, _⟩ | ⟨x, len0, cap0, m, n, V0, V1, D0, D1, P0, P1, hcs, _, hl, hm, hmm, hx, hcell⟩
  · injection hcs with hcs
    subst hcs
    exact ⟨none, 0, [], rfl, AtsIn.nil _ _ _, Nat.le_refl _, Nat.zero_le _, fun x hx => by cases hx⟩
  · injection hcs with hcs
    subst hcs
    have hlm : len0 ≤ m := by rw [hmm]; split <;> omega
    have hd : d = .slice ((List.range len0).map fun i => .agg [D0 i, D1 i]) ((List.range (m - len0)).map fun j => .agg [D0 (len0 + j), D1 (len0 + j)]) := congrArg Prod.fst hx
    have each : ∀ i, ∃ s : ByteArray × ByteArray, i < len0 → W.cell? (x.add (i * 2)) = some (.string s.1) ∧ W.cell? (x.add (i * 2 + 1)) = some (.string s.2) ∧ s.1.size ≤ 140737488355328 ∧ s.2.size ≤ 140737488355328 := by
      intro i
      by_cases hi : i < len0
      · obtain ⟨g0, g1, t0, t1⟩ := hcell i (by omega)
        obtain ⟨s, es, xs, _⟩ := DataW.trod_string Try.underlying9 t0
        obtain ⟨s', es', xs', _⟩ := DataW.trod_string Try.underlying9 t1
        injection es with es
        injection es' with es'
        have hD0 : D0 i = .lit (.string s.data.toList) := congrArg Prod.fst xs
        have hD1 : D1 i = .lit (.string s'.data.toList) := congrArg Prod.fst xs'
        have mem : ∀ z, z ∈ DataW.weights (H := H) Try.prog 41 (.agg [D0 i, D1 i]) → z ≤ 140737488355328 := fun z hz => by
          refine hw z ?_
          rw [hd]
          simp only [DataW.weights, Try.underlying36, List.mem_cons, List.mem_append]
          exact .inr (.inl (weightsAll_mem (d := .agg [D0 i, D1 i]) (List.mem_map.2 ⟨i, List.mem_range.2 hi, rfl⟩) _ hz))
        have hwt : DataW.weights (H := H) Try.prog 41 (.agg [D0 i, D1 i]) = [s.data.toList.length, s'.data.toList.length] := by
          rw [hD0, hD1]
          simp only [DataW.weights, Try.underlying41]
          rfl
        exact ⟨(s, s'), fun _ => ⟨by rw [g0, es], by rw [g1, es'], mem s.data.toList.length (by rw [hwt]; simp), mem s'.data.toList.length (by rw [hwt]; simp)⟩⟩
      · exact ⟨(ByteArray.empty, ByteArray.empty), fun h => absurd h hi⟩
    obtain ⟨F, hF⟩ := Classical.axiomOfChoice each
    have hlen : len0 ≤ 140737488355328 := by
      have : (((List.range len0).map fun i => (.agg [D0 i, D1 i] : DataW H)).length + ((List.range (m - len0)).map fun j => (.agg [D0 (len0 + j), D1 (len0 + j)] : DataW H)).length) * Try.prog.bytesOf 41 ≤ 140737488355328 := by
        refine hw _ ?_
        rw [hd]
        simp only [DataW.weights, Try.underlying36, List.mem_cons, true_or]
      rw [bytes41] at this
      simp only [List.length_map, List.length_range] at this
      omega
    refine ⟨some x, cap0, (List.range len0).map fun i => ⟨(F i).1.toList, (F i).2.toList⟩, by simp, fun j hj => ?_, by simpa using hl, by simpa using hlen, fun y hy => ?_⟩
    · have hj' : j < len0 := by simpa using hj
      obtain ⟨f0, f1, _⟩ := hF j hj'
      obtain ⟨z0, _⟩ := hF 0 (by omega)
      obtain ⟨xb, xo, xs⟩ := x
      have hsp : xs = none := by simpa [Addr.add] using World.cell?_spot z0
      subst hsp
      rw [Addr.add_lit] at f0 f1
      refine ⟨xb, xo, rfl, World.block_lt_of_cell? W _ f0, ?_, ?_⟩
      · rw [f0]; simp [sv, ByteArray.toList_eq]
      · rw [show xo + j * 2 + 1 = xo + (j * 2 + 1) by omega, f1]; simp [sv, ByteArray.toList_eq]
    · obtain ⟨i, hi, rfl⟩ := List.mem_map.1 hy
      obtain ⟨_, _, f2, f3⟩ := hF i (List.mem_range.1 hi)
      have e1 : ((F i).1.toList).length = (F i).1.size := by rw [ByteArray.toList_eq]; rfl
      have e2 : ((F i).2.toList).length = (F i).2.size := by rw [ByteArray.toList_eq]; rfl
      exact ⟨by show ((F i).1.toList).length ≤ _; omega, by show ((F i).2.toList).length ≤ _; omega⟩

set_option maxRecDepth 100000 in
theorem lifted (os : Os) (started : os.Started) (H : Type) (enc : TypeId × Value → H) :
    ReturnsInHanded {} Try.checked os 5 .any (Rows.treeAttrsSpec.pre6 enc Try.prog Try.f5 Rows.treeAttrsRow.domain false) (Rows.treeAttrsSpec.post enc Try.prog Try.f5 false true false false) := by
  refine returnsInHanded_of_change_sized (C := Try.checked) own started (by kernel_rfl) Try.func5
    (ChangeSpec.witness6 (enc := enc) (C := Try.checked) false ⟨#[], #[.slice none 0 0], []⟩ 8 (by kernel_rfl) (by kernel_rfl) (by kernel_rfl) (by kernel_rfl)) ?_
  intro W base args ds gs before hval0 hW hcnd hsz _
  have hval : ∀ (j : Nat) t v, Try.f5.params[j]? = some t → args[j]? = some v → Value.okWide Try.prog W .any base t v := hval0
  have hW' := hW
  obtain ⟨p, q, hA0, hV, rfl, hfz, hnd⟩ := hW
  have hA : DataW.TrodAll enc Try.prog W 0 (fun _ => true) true Try.f5.params.toList args.toList ds p := hA0
  have hsz1 : (DataW.weightsEach Try.prog (Try.f5.params.toList ++ Rows.treeAttrsSpec.plain.varTypes Try.checked.prog) (ds ++ gs)).all (· ≤ reachBytes) = true := hsz
  rw [Try.params5] at hA hval hsz1
  obtain ⟨v0, vs0, d0, ds0, p0, q0, hargs, rfl, rfl, h0, r0⟩ := trodAll_cons hA
  obtain ⟨rfl, rfl, rfl⟩ := trodAll_nil r0
  obtain rfl : args = #[v0] := by cases args; simp_all
  obtain ⟨rfl, rfl⟩ := trodVars_none hV
  obtain ⟨a0, len0, cap0, rfl⟩ := okWide_slice Try.underlying36 (hval 0 36 v0 rfl rfl)
  have k0 := h0
  have lt0 : ∀ x ∈ p0, x.block < W.heap.size := by obtain ⟨m, hm⟩ := k0; exact DataW.trod_lt m _ _ _ hm
  have hall := List.all_eq_true.1 hsz1
  have hrb := reachBytes_lt
  obtain ⟨l, hll, hI, hlm, hls⟩ : ∃ l : List Atr, l.length = len0 ∧ AtsIn (fun k => k < W.heap.size) W a0 l ∧ len0 ≤ 140737488355328 ∧ ∀ x ∈ l, x.name.length ≤ 140737488355328 ∧ x.value.length ≤ 140737488355328 := by
    obtain ⟨fuel, hf⟩ := h0
    have hf' : DataW.trod enc Try.prog W 0 (fun _ => true) true fuel 36 [.slice a0 len0 cap0] = some (d0, p0) := by simpa [Value.cells] using hf
    obtain ⟨aa, ac, l, hv, hI, -, hll, hls⟩ := open_ats hf' (fun z hz => by
      have h1 := hall _ (DataW.weights_mem_each (j := 0) (t := 36) rfl rfl _ hz)
      have h1' : z ≤ reachBytes := by simpa using h1
      omega)
    injection hv with e1 e2 e3
    subst e1 e2
    exact ⟨l, rfl, hI, hll, hls⟩
  clear hA0 hval0
  refine (attrs_any l a0 len0 cap0 hll (by omega) hls W hI).mono fun e W' ⟨he, bel0⟩ => ?_
  have bel := bel0.below
  subst he
  exact ⟨_, rfl, _, _, _, [], _, [], hW', trodAll_mk1 (shut_bool Try.underlying4 _), (trodAll_cons_mk (Below.trod laidOut (by kernel_rfl) (of_decide_eq_true (by kernel_rfl)) k0 bel lt0) trodAll_mk0), rfl, bel.frame _, fun h => by cases h⟩

theorem over : Rows.treeAttrsRow.holds Try.pinned (OpenSpec.ofChange Rows.treeAttrsSpec) :=
  OpenClaim.holds_of_wide 5 Try.f5 rfl rfl rfl rfl rfl rfl rfl ⟨rfl, rfl, rfl, rfl, rfl⟩ rfl rfl rfl rfl rfl (by kernel_rfl) Try.func5 (by kernel_rfl)
    (of_decide_eq_true (by kernel_rfl)) (by unfold Func.isWrapper; first | (rw [if_pos (by decide +kernel)]; kernel_rfl) | (rw [if_neg (by decide +kernel)]; exact ⟨rfl, rfl⟩))
    (fun os started H enc _ => lifted os started H enc)

theorem proved : Rows.TreeAttrsSaid := over
#print axioms proved
end Go.Proofs.Ytffllhohlfblnaa.treeAttrs

namespace Go.Proofs.Ytffllhohlfblnaa
theorem treeAttrs_holds : Rows.TreeAttrsSaid := treeAttrs.proved
#print axioms treeAttrs_holds
end Go.Proofs.Ytffllhohlfblnaa
