/-
  For every row of rows of bytes the Go function portierelaw01.InputParts returns true, and its argument reads afterwards as before.
-/
import Derived.Test.YtnfallgpnoofiaaRows
import Derived.Test.YtnfallgpnoofiaaParts
import Derived.WalkKit
import Derived.ProofKit
import Derived.OpenShut
import Derived.ShutString
import Derived.ChangeOld
import Derived.Below
import Derived.SizedLaws
import Derived.Deep.Matrix
namespace Go.Proofs.Ytnfallgpnoofiaa.inputParts
open Go.ChangeShapes Go.WideShapes Go.ChangeAt Go.RowKit Go.Deep
set_option linter.unusedVariables false

theorem own : ownKnob Try.prog.godebug = none := by kernel_rfl
theorem laidOut : laidOutB Try.prog = true := by kernel_rfl
theorem bytes5 : Try.checked.prog.bytesOf 5 = 1 := by kernel_rfl

theorem weightsAll_mem {H : Type} {P : Program} {e : TypeId} : ∀ {ds : List (DataW H)} {d : DataW H}, d ∈ ds → ∀ n ∈ d.weights P e, n ∈ DataW.weightsAll P e ds
  | [], _, h, _, _ => by cases h
  | x :: r, d, h, n, hn => by
    simp only [DataW.weightsAll, List.mem_append]
    rcases List.mem_cons.1 h with rfl | h
    · exact .inl hn
    · exact .inr (weightsAll_mem h n hn)

/-- One row that came in. -/
theorem row_one {w : World} {a : Option Addr} {len cap : Nat} {zs : List Int} (h1 : len ≤ cap) (h2 : cap ≤ maxLen) (h3 : zs.length = cap) (h4 : ∀ n ∈ zs, (Lit.int .u8 n).wf = true) (h5 : a = none → cap = 0)
    (h6 : ∀ x, a = some x → ∀ c, c < cap → w.cell? (x.add c) = some (.int .u8 (zs.getD c 0))) : ∃ bs : List UInt8, bs.length = len ∧ RowB (fun k => k < w.heap.size) w a bs := by
  have key : (a = none ∧ len = 0 ∧ cap = 0 ∧ zs = []) ∨ ∃ x, a = some x ∧ len ≤ cap ∧ cap ≤ maxLen ∧ zs.length = cap ∧ (∀ i, i < zs.length → w.cell? (x.add i) = some (.int .u8 (zs.getD i 0))) ∧ ∀ n ∈ zs, (Lit.int .u8 n).wf = true := by
    cases a with
    | none =>
      have := h5 rfl
      exact .inl ⟨rfl, by omega, this, List.eq_nil_of_length_eq_zero (by omega)⟩
    | some x => exact .inr ⟨x, rfl, h1, h2, h3, fun i hi => h6 x rfl i (by omega), h4⟩
  obtain ⟨bs, q1, _, _, q2⟩ := row_of key
  exact ⟨bs, q1, q2⟩

set_option maxRecDepth 100000 in
theorem lifted (os : Os) (started : os.Started) (H : Type) (enc : TypeId × Value → H) :
    ReturnsInHanded {} Try.checked os 6 .any (Rows.inputPartsSpec.pre6 enc Try.prog Try.f6 Rows.inputPartsRow.domain false) (Rows.inputPartsSpec.post enc Try.prog Try.f6 false true false false) := by
  refine returnsInHanded_of_change_sized (C := Try.checked) own started (by kernel_rfl) Try.func6
    (ChangeSpec.witness6 (enc := enc) (C := Try.checked) false ⟨#[], #[.slice none 0 0], []⟩ 8 (by kernel_rfl) (by kernel_rfl) (by kernel_rfl) (by kernel_rfl)) ?_
  intro W base args ds gs before hval0 hW hcnd hsz _
  have hval : ∀ (j : Nat) t v, Try.f6.params[j]? = some t → args[j]? = some v → Value.okWide Try.prog W .any base t v := hval0
  have hW' := hW
  obtain ⟨p, q, hA0, hV, rfl, hfz, hnd⟩ := hW
  have hA : DataW.TrodAll enc Try.prog W 0 (fun _ => true) true Try.f6.params.toList args.toList ds p := hA0
  have hsz1 : (DataW.weightsEach Try.checked.prog (Try.f6.params.toList ++ Rows.inputPartsSpec.plain.varTypes Try.checked.prog) (ds ++ gs)).all (· ≤ reachBytes) = true := hsz
  rw [Try.params6] at hA hval hsz1
  obtain ⟨v0, vs0, d0, ds0, p0, q0, hargs, rfl, rfl, h0, r0⟩ := trodAll_cons hA
  obtain ⟨rfl, rfl, rfl⟩ := trodAll_nil r0
  obtain rfl : args = #[v0] := by cases args; simp_all
  obtain ⟨rfl, rfl⟩ := trodVars_none hV
  obtain ⟨a0, len0, cap0, rfl⟩ := okWide_slice Try.underlying32 (hval 0 32 v0 rfl rfl)
  have k0 := h0
  have lt0 : ∀ x ∈ p0, x.block < W.heap.size := by obtain ⟨m, hm⟩ := k0; exact DataW.trod_lt m _ _ _ hm
  obtain ⟨A, C, R, hlm, hrows⟩ : ∃ A C R, len0 ≤ 9223372036854775807 ∧ RowsB (fun k => k < W.heap.size) W a0 len0 A C R := by
    obtain ⟨fuel, hf⟩ := h0
    rcases open_int_rows Try.underlying32 Try.underlying23 Try.underlying5 (by kernel_rfl) (by kernel_rfl) hf with ⟨hcs, _⟩ | ⟨x, l, c, A, L, C, Z, hcs, _, hl, hm, hx, hr⟩
    · simp [Value.cells] at hcs
      obtain ⟨rfl, rfl, rfl⟩ := hcs
      exact ⟨fun _ => none, fun _ => 0, fun _ => [], by omega, ⟨.inl rfl, fun r h => by omega⟩⟩
    · simp [Value.cells] at hcs
      obtain ⟨rfl, rfl, rfl⟩ := hcs
      have hd : d0 = .slice ((List.range len0).map fun r => intRow .u8 (A r) (L r) (Z r)) ((List.range (cap0 - len0)).map fun j => intRow .u8 (A (len0 + j)) (L (len0 + j)) (Z (len0 + j))) := congrArg Prod.fst hx
      have hw : ∀ r, r < len0 → L r ≤ 140737488355328 := by
        intro r hrl
        obtain ⟨_, q2, q3, q4, _, q6, _⟩ := hr r (by omega)
        cases hA : A r with
        | none => have := q6 hA; omega
        | some y =>
          have hmem : ((Z r).take (L r)).length + ((Z r).drop (L r)).length ∈ DataW.weights (H := H) Try.checked.prog 32 d0 := by
            rw [hd]
            have hu : Try.checked.prog.underlying 32 = some (.slice 23) := Try.underlying32
            simp only [DataW.weights, hu, List.mem_cons, List.mem_append]
            refine .inr (.inl (weightsAll_mem (d := intRow .u8 (A r) (L r) (Z r)) (List.mem_map.2 ⟨r, List.mem_range.2 hrl, rfl⟩) _ ?_))
            have hu2 : Try.checked.prog.underlying 23 = some (.slice 5) := Try.underlying23
            simp only [intRow, hA, DataW.weights, hu2, List.mem_cons, bytes5, lits, List.length_map, Nat.mul_one, true_or]
          have h1 := List.all_eq_true.1 hsz1 _ (DataW.weights_mem_each (j := 0) (t := 32) rfl rfl _ hmem)
          have h2 := reachBytes_lt
          simp at h1
          omega
      have hch : ∀ r, ∃ bs : List UInt8, r < len0 → bs.length = L r ∧ RowB (fun k => k < W.heap.size) W (A r) bs := by
        intro r
        by_cases hrl : r < len0
        · obtain ⟨_, q2, q3, q4, q5, q6, q7⟩ := hr r (by omega)
          obtain ⟨bs, b1, b2⟩ := row_one q2 q3 q4 q5 q6 (fun y hy c hc => (q7 y hy).2 c hc)
          exact ⟨bs, fun _ => ⟨b1, b2⟩⟩
        · exact ⟨[], fun h => absurd h hrl⟩
      obtain ⟨R, hR⟩ := Classical.axiomOfChoice hch
      refine ⟨A, C, R, by unfold maxLen at hm; omega, ⟨?_, fun r hrl => ⟨(hR r hrl).2, by rw [(hR r hrl).1]; exact hw r hrl⟩⟩⟩
      by_cases h0 : len0 = 0
      · exact .inl h0
      · obtain ⟨xb, xo, xs⟩ := x
        have hc0 := (hr 0 (by omega)).1
        have hsp : xs = none := by simpa [Addr.add] using World.cell?_spot hc0
        subst hsp
        refine .inr ⟨xb, xo, rfl, World.block_lt_of_cell? W _ hc0, fun r hrl => ?_⟩
        have h1 := (hr r (by omega)).1
        rw [Addr.add_lit] at h1
        rw [h1, (hR r hrl).1]
  clear hA0 hval0
  refine (parts_walk a0 len0 cap0 A C R W hlm hrows).mono fun e W' ⟨he, bel0⟩ => ?_
  have bel := bel0.below
  subst he
  exact ⟨_, rfl, _, _, _, [], _, [], hW', trodAll_mk1 (shut_bool Try.underlying4 _), (trodAll_cons_mk (Below.trod laidOut (by kernel_rfl) (of_decide_eq_true (by kernel_rfl)) k0 bel lt0) trodAll_mk0), rfl, bel.frame _, fun h => by cases h⟩

theorem over : Rows.inputPartsRow.holds Try.pinned (OpenSpec.ofChange Rows.inputPartsSpec) :=
  OpenClaim.holds_of_wide 6 Try.f6 rfl rfl rfl rfl rfl rfl rfl ⟨rfl, rfl, rfl, rfl, rfl⟩ rfl rfl rfl rfl rfl (by kernel_rfl) Try.func6 (by kernel_rfl)
    (of_decide_eq_true (by kernel_rfl)) (by unfold Func.isWrapper; first | (rw [if_pos (by decide +kernel)]; kernel_rfl) | (rw [if_neg (by decide +kernel)]; exact ⟨rfl, rfl⟩))
    (fun os started H enc _ => lifted os started H enc)

theorem proved : Rows.InputPartsSaid := over
end Go.Proofs.Ytnfallgpnoofiaa.inputParts

namespace Go.Proofs.Ytnfallgpnoofiaa
theorem inputParts_holds : Rows.InputPartsSaid := inputParts.proved
#print axioms inputParts_holds
end Go.Proofs.Ytnfallgpnoofiaa
