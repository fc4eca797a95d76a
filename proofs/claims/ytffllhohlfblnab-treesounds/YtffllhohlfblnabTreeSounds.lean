/-
  For every row of items the Go function portierelaw07.TreeSounds returns true, and its argument reads afterwards as before.
-/
import Derived.Test.YtffllhohlfblnabRows
import Derived.Test.YtffllhohlfblnabSW
import Derived.WalkKit
import Derived.ProofKit
import Derived.OpenShut
import Derived.ShutString
import Derived.ChangeOld
import Derived.SizedLaws
import Derived.Below
import Derived.Deep.SlicePairs
namespace Go.Proofs.Ytffllhohlfblnab.O.treeSounds
open Go.ChangeShapes Go.WideShapes Go.ChangeAt Go.RowKit
open Go.ChangeMaps (open_string shut_string)
set_option linter.unusedVariables false

theorem own : ownKnob Try.prog.godebug = none := by kernel_rfl
theorem laidOut : laidOutB Try.prog = true := by kernel_rfl
theorem reachBytes_lt : reachBytes ≤ 140737488355328 := by unfold reachBytes; decide
theorem weightsAll_mem {H : Type} {P : Program} {e : TypeId} : ∀ {ds : List (DataW H)} {d : DataW H}, d ∈ ds → ∀ n ∈ d.weights P e, n ∈ DataW.weightsAll P e ds
  | x :: r, d, hd, n, hn => by
    simp only [DataW.weightsAll, List.mem_append]
    rcases List.mem_cons.1 hd with rfl | h
    · exact .inl hn
    · exact .inr (weightsAll_mem h n hn)
theorem bytes77 : Try.prog.bytesOf 77 = 32 := by kernel_rfl
theorem cells25 : Try.prog.cellsOf 25 = 5 := by kernel_rfl
theorem cells77 : Try.prog.cellsOf 77 = 2 := by kernel_rfl
theorem one3 : Try.prog.cellsOf 3 = 1 := by kernel_rfl
theorem one5 : Try.prog.cellsOf 5 = 1 := by kernel_rfl
theorem one9 : Try.prog.cellsOf 9 = 1 := by kernel_rfl
theorem one23 : Try.prog.cellsOf 23 = 1 := by kernel_rfl

/-- A row of attributes that came in: what it reads as, and its bounds. -/
theorem open_ats {H : Type} {enc : TypeId × Value → H} {W : World} {fuel : Nat} {v : Value} {d : DataW H} {pl : List MemPlace} (h : DataW.trod enc Try.prog W 0 (fun _ => true) true fuel 23 [v] = some (d, pl)) (hw : ∀ z ∈ DataW.weights Try.prog 23 d, z ≤ 140737488355328) :
    ∃ (aa : Option Addr) (ac : Nat) (l : List Atr), v = .slice aa l.length ac ∧ AtsAt (fun k => k < W.heap.size) W aa l ∧ l.length ≤ ac ∧ l.length ≤ 140737488355328 ∧ ∀ x ∈ l, x.name.length ≤ 140737488355328 ∧ x.value.length ≤ 140737488355328 := by
  rcases Go.Deep.open_slice_pairs Try.underlying23 Try.underlying77 cells77 rfl rfl one9 one9 h with ⟨hcs, _⟩ | ⟨x, len0, cap0, m, n, V0, V1, D0, D1, P0, P1, hcs, _, hl, hm, hmm, hx, hcell⟩
  · injection hcs with hcs
    subst hcs
    exact ⟨none, 0, [], rfl, AtsAt.nil _ _ _, Nat.le_refl _, Nat.zero_le _, fun x hx => by cases hx⟩
  · injection hcs with hcs
    subst hcs
    have hlm : len0 ≤ m := by rw [hmm]; split <;> omega
    have hd : d = .slice ((List.range len0).map fun i => .agg [D0 i, D1 i]) ((List.range (m - len0)).map fun j => .agg [D0 (len0 + j), D1 (len0 + j)]) := congrArg Prod.fst hx
    have each : ∀ i, ∃ s : ByteArray × ByteArray, i < len0 → W.cell? (x.add (i * 2)) = some (.string s.1) ∧ W.cell? (x.add (i * 2 + 1)) = some (.string s.2) ∧ s.1.size ≤ 140737488355328 ∧ s.2.size ≤ 140737488355328 := by
      intro i
      by_cases hi : i < len0
      · obtain ⟨g0, g1, t0, t1⟩ := hcell i (by omega)
        obtain ⟨s, es, xs, _⟩ := DataW.trod_string Try.underlying9 t0
        obtain ⟨s', es', xs', _⟩ := DataW.trod_string Try.underlying9 t1
        injection es with es
        injection es' with es'
        have hD0 : D0 i = .lit (.string s.data.toList) := congrArg Prod.fst xs
        have hD1 : D1 i = .lit (.string s'.data.toList) := congrArg Prod.fst xs'
        have mem : ∀ z, z ∈ DataW.weights (H := H) Try.prog 77 (.agg [D0 i, D1 i]) → z ≤ 140737488355328 := fun z hz => by
          refine hw z ?_
          rw [hd]
          simp only [DataW.weights, Try.underlying23, List.mem_cons, List.mem_append]
          exact .inr (.inl (weightsAll_mem (d := .agg [D0 i, D1 i]) (List.mem_map.2 ⟨i, List.mem_range.2 hi, rfl⟩) _ hz))
        have hwt : DataW.weights (H := H) Try.prog 77 (.agg [D0 i, D1 i]) = [s.data.toList.length, s'.data.toList.length] := by
          rw [hD0, hD1]
          simp only [DataW.weights, Try.underlying77]
          rfl
        exact ⟨(s, s'), fun _ => ⟨by rw [g0, es], by rw [g1, es'], mem s.data.toList.length (by rw [hwt]; simp), mem s'.data.toList.length (by rw [hwt]; simp)⟩⟩
      · exact ⟨(ByteArray.empty, ByteArray.empty), fun h => absurd h hi⟩
    obtain ⟨F, hF⟩ := Classical.axiomOfChoice each
    have hlen : len0 ≤ 140737488355328 := by
      have : (((List.range len0).map fun i => (.agg [D0 i, D1 i] : DataW H)).length + ((List.range (m - len0)).map fun j => (.agg [D0 (len0 + j), D1 (len0 + j)] : DataW H)).length) * Try.prog.bytesOf 77 ≤ 140737488355328 := by
        refine hw _ ?_
        rw [hd]
        simp only [DataW.weights, Try.underlying23, List.mem_cons, true_or]
      rw [bytes77] at this
      simp only [List.length_map, List.length_range] at this
      omega
    refine ⟨some x, cap0, (List.range len0).map fun i => ⟨(F i).1.toList, (F i).2.toList⟩, by simp, fun j hj => ?_, by simpa using hl, by simpa using hlen, fun y hy => ?_⟩
    · have hj' : j < len0 := by simpa using hj
      obtain ⟨f0, f1, _⟩ := hF j hj'
      obtain ⟨z0, _⟩ := hF 0 (by omega)
      obtain ⟨xb, xo, xs⟩ := x
      have hsp : xs = none := by simpa [Addr.add] using World.cell?_spot z0
      subst hsp
      rw [Addr.add_lit] at f0 f1
      refine ⟨xb, xo, rfl, World.block_lt_of_cell? W _ f0, ?_, ?_⟩
      · rw [f0]; simp [sv, ByteArray.toList_eq]
      · rw [show xo + j * 2 + 1 = xo + (j * 2 + 1) by omega, f1]; simp [sv, ByteArray.toList_eq]
    · obtain ⟨i, hi, rfl⟩ := List.mem_map.1 hy
      obtain ⟨_, _, f2, f3⟩ := hF i (List.mem_range.1 hi)
      have e1 : ((F i).1.toList).length = (F i).1.size := by rw [ByteArray.toList_eq]; rfl
      have e2 : ((F i).2.toList).length = (F i).2.size := by rw [ByteArray.toList_eq]; rfl
      exact ⟨by show ((F i).1.toList).length ≤ _; omega, by show ((F i).2.toList).length ≤ _; omega⟩

set_option maxRecDepth 100000 in
/-- An item that came in. -/
theorem open_item {H : Type} {enc : TypeId × Value → H} {W : World} {fuel : Nat} {cs : List Value} {d : DataW H} {pl : List MemPlace} (hlen : cs.length = 5) (h : DataW.trod enc Try.prog W 0 (fun _ => true) true fuel 25 cs = some (d, pl)) (hw : ∀ z ∈ DataW.weights Try.prog 25 d, z ≤ 140737488355328) :
    ∃ (x : Iz) (aa : Option Addr) (ac : Nat), cs = izCells x aa ac ∧ AtsAt (fun k => k < W.heap.size) W aa x.attrs ∧ x.attrs.length ≤ ac ∧ IzOk x := by
  obtain ⟨xs, n, _, hxy, _, hxl, hf⟩ := DataW.trod_struct Try.underlying25 h
  match xs, hxl, cs, hlen with
  | [y0, y1, y2, y3, y4], _, [v0, v1, v2, v3, v4], _ =>
    have t0 : DataW.trod enc Try.prog W 0 (fun _ => true) true n 3 (([v0, v1, v2, v3, v4].drop 0).take (Try.prog.cellsOf 3)) = [y0, y1, y2, y3, y4][0]? := hf 0 _ rfl
    have t1 : DataW.trod enc Try.prog W 0 (fun _ => true) true n 5 (([v0, v1, v2, v3, v4].drop 1).take (Try.prog.cellsOf 5)) = [y0, y1, y2, y3, y4][1]? := hf 1 _ rfl
    have t2 : DataW.trod enc Try.prog W 0 (fun _ => true) true n 9 (([v0, v1, v2, v3, v4].drop 2).take (Try.prog.cellsOf 9)) = [y0, y1, y2, y3, y4][2]? := hf 2 _ rfl
    have t3 : DataW.trod enc Try.prog W 0 (fun _ => true) true n 9 (([v0, v1, v2, v3, v4].drop 3).take (Try.prog.cellsOf 9)) = [y0, y1, y2, y3, y4][3]? := hf 3 _ rfl
    have t4 : DataW.trod enc Try.prog W 0 (fun _ => true) true n 23 (([v0, v1, v2, v3, v4].drop 4).take (Try.prog.cellsOf 23)) = [y0, y1, y2, y3, y4][4]? := hf 4 _ rfl
    rw [one3] at t0
    rw [one5] at t1
    rw [one9] at t2 t3
    rw [one23] at t4
    have t0 : DataW.trod enc Try.prog W 0 (fun _ => true) true n 3 [v0] = some y0 := t0
    have t1 : DataW.trod enc Try.prog W 0 (fun _ => true) true n 5 [v1] = some y1 := t1
    have t2 : DataW.trod enc Try.prog W 0 (fun _ => true) true n 9 [v2] = some y2 := t2
    have t3 : DataW.trod enc Try.prog W 0 (fun _ => true) true n 9 [v3] = some y3 := t3
    have t4 : DataW.trod enc Try.prog W 0 (fun _ => true) true n 23 [v4] = some y4 := t4
    have hd : d = .agg [y0.1, y1.1, y2.1, y3.1, y4.1] := by
      have := congrArg Prod.fst hxy
      simpa using this
    have hwt : DataW.weights (H := H) Try.prog 25 d = DataW.weights Try.prog 3 y0.1 ++ (DataW.weights Try.prog 5 y1.1 ++ (DataW.weights Try.prog 9 y2.1 ++ (DataW.weights Try.prog 9 y3.1 ++ (DataW.weights Try.prog 23 y4.1 ++ [])))) := by
      rw [hd]
      simp only [DataW.weights, Try.underlying25]
      rfl
    rw [hwt] at hw
    obtain ⟨z0, e0, _, _⟩ := DataW.trod_int Try.underlying3 t0
    obtain ⟨z1, e1, _, w1⟩ := DataW.trod_int Try.underlying5 t1
    obtain ⟨s2, e2, x2, _⟩ := DataW.trod_string Try.underlying9 t2
    obtain ⟨s3, e3, x3, _⟩ := DataW.trod_string Try.underlying9 t3
    obtain ⟨aa, ac, l, e4, hA, hac, hll, hls⟩ := open_ats (d := y4.1) (pl := y4.2) t4 (fun z hz => hw z (by simp [hz]))
    injection e0 with e0
    injection e1 with e1
    injection e2 with e2
    injection e3 with e3
    subst e0 e1 e2 e3 e4
    have hb : 0 ≤ z1 ∧ z1 ≤ 255 := by simpa [Lit.wf, IntKind.min, IntKind.max, IntKind.signed, IntKind.bits] using w1
    have q2 : s2.data.toList.length ≤ 140737488355328 := hw _ (by rw [x2]; simp [DataW.weights])
    have q3 : s3.data.toList.length ≤ 140737488355328 := hw _ (by rw [x3]; simp [DataW.weights])
    refine ⟨⟨z0, z1.toNat, s2.toList, l, s3.toList⟩, aa, ac, ?_, hA, hac, ⟨by show s2.toList.length ≤ _; rw [ByteArray.toList_eq]; exact q2, by show s3.toList.length ≤ _; rw [ByteArray.toList_eq]; exact q3, hll, hls⟩⟩
    have hz1 : ((z1.toNat : Nat) : Int) = z1 := Int.toNat_of_nonneg hb.1
    simp only [izCells, sv, ByteArray.toList_eq, hz1]

set_option maxRecDepth 100000 in
theorem lifted (os : Os) (started : os.Started) (H : Type) (enc : TypeId × Value → H) :
    ReturnsInHanded {} Try.checked os 3 .any (Rows.treeSoundsSpec.pre6 enc Try.prog Try.f3 Rows.treeSoundsRow.domain false) (Rows.treeSoundsSpec.post enc Try.prog Try.f3 false true false false) := by
  refine returnsInHanded_of_change_sized (C := Try.checked) own started (by kernel_rfl) Try.func3
    (ChangeSpec.witness6 (enc := enc) (C := Try.checked) false ⟨#[], #[.slice none 0 0], []⟩ 8 (by kernel_rfl) (by kernel_rfl) (by kernel_rfl) (by kernel_rfl)) ?_
  intro W base args ds gs before hval0 hW hcnd hsz _
  have hval : ∀ (j : Nat) t v, Try.f3.params[j]? = some t → args[j]? = some v → Value.okWide Try.prog W .any base t v := hval0
  have hW' := hW
  obtain ⟨p, q, hA0, hV, rfl, hfz, hnd⟩ := hW
  have hA : DataW.TrodAll enc Try.prog W 0 (fun _ => true) true Try.f3.params.toList args.toList ds p := hA0
  have hsz1 : (DataW.weightsEach Try.prog (Try.f3.params.toList ++ Rows.treeSoundsSpec.plain.varTypes Try.checked.prog) (ds ++ gs)).all (· ≤ reachBytes) = true := hsz
  rw [Try.params3] at hA hval hsz1
  obtain ⟨v0, vs0, d0, ds0, p0, q0, hargs, rfl, rfl, h0, r0⟩ := trodAll_cons hA
  obtain ⟨rfl, rfl, rfl⟩ := trodAll_nil r0
  obtain rfl : args = #[v0] := by cases args; simp_all
  obtain ⟨rfl, rfl⟩ := trodVars_none hV
  obtain ⟨a0, len0, cap0, rfl⟩ := okWide_slice Try.underlying22 (hval 0 22 v0 rfl rfl)
  have k0 := h0
  have lt0 : ∀ x ∈ p0, x.block < W.heap.size := by obtain ⟨m, hm⟩ := k0; exact DataW.trod_lt m _ _ _ hm
  have hall := List.all_eq_true.1 hsz1
  have hrb := reachBytes_lt
  obtain ⟨l, hll, hlm, hI, hO⟩ : ∃ l : List Iz, l.length = len0 ∧ len0 ≤ 9223372036854775807 ∧ IzAt W a0 l ∧ ∀ y ∈ l, IzOk y := by
    obtain ⟨fuel, hf⟩ := h0
    rcases Go.Deep.open_slice Try.underlying22 hf with ⟨hcs, _⟩ | ⟨a, len, cap, m, n, D, Pl, hcs, _, hl, hm, hmm, hx, hel⟩
    · simp [Value.cells] at hcs
      obtain ⟨rfl, rfl, rfl⟩ := hcs
      exact ⟨[], rfl, by omega, fun j hj => absurd hj (Nat.not_lt_zero _), fun y hy => by cases hy⟩
    · simp [Value.cells] at hcs
      obtain ⟨rfl, rfl, rfl⟩ := hcs
      have hlm : len0 ≤ m := by rw [hmm]; split <;> omega
      have hd : d0 = .slice ((List.range len0).map D) ((List.range (m - len0)).map fun j => D (len0 + j)) := congrArg Prod.fst hx
      have each : ∀ i, ∃ q : Iz × Option Addr × Nat, i < len0 → (∃ g o, a = ⟨g, o, none⟩ ∧ g < W.heap.size ∧ ∀ f u, (izCells q.1 q.2.1 q.2.2)[f]? = some u → W.cell? ⟨g, o + i * 5 + f, none⟩ = some u) ∧ AtsAt (fun k => k < W.heap.size) W q.2.1 q.1.attrs ∧ q.1.attrs.length ≤ q.2.2 ∧ IzOk q.1 := by
        intro i
        by_cases hi : i < len0
        · obtain ⟨cs', hc1, hc2⟩ := hel i (by omega)
          rw [cells25] at hc1
          obtain ⟨_, hlen, hcell⟩ := World.cells?_some hc1
          obtain ⟨x, aa, ac, rfl, hA, hac, hok⟩ := open_item hlen hc2 (fun z hz => by
            have hmem : z ∈ DataW.weights (H := H) Try.prog 22 d0 := by
              rw [hd]
              simp only [DataW.weights, Try.underlying22, List.mem_cons, List.mem_append]
              exact .inr (.inl (weightsAll_mem (d := D i) (List.mem_map.2 ⟨i, List.mem_range.2 hi, rfl⟩) _ hz))
            have h1 := hall _ (DataW.weights_mem_each (j := 0) (t := 22) rfl rfl _ hmem)
            have h1' : z ≤ reachBytes := by simpa using h1
            omega)
          refine ⟨(x, aa, ac), fun _ => ⟨?_, hA, hac, hok⟩⟩
          obtain ⟨g, o, sp⟩ := a
          have c0 := hcell 0 (by omega)
          obtain ⟨cs0, hz1, hz2⟩ := hel 0 (by omega)
          rw [cells25] at hz1
          obtain ⟨_, hlen0, hcell0⟩ := World.cells?_some hz1
          have c00 := hcell0 0 (by omega)
          have hcc : ∃ u, cs0[0]? = some u := ⟨_, List.getElem?_eq_getElem (by omega)⟩
          obtain ⟨u0, hu0⟩ := hcc
          have c00' : W.cell? ⟨g, o, sp⟩ = some u0 := by simpa [Addr.add, hu0] using c00
          have hsp : sp = none := World.cell?_spot c00'
          subst hsp
          refine ⟨g, o, rfl, World.block_lt_of_cell? W _ c00', fun f u hu => ?_⟩
          have hf5 : f < 5 := by
            rcases Nat.lt_or_ge f 5 with hh | hh
            · exact hh
            · rw [List.getElem?_eq_none (by show (izCells x aa ac).length ≤ f; exact hh)] at hu; cases hu
          have := hcell f hf5
          rw [Addr.add_lit, Addr.add_lit] at this
          rw [this]
          exact hu
        · exact ⟨(⟨0, 0, [], [], []⟩, none, 0), fun h => absurd h hi⟩
      obtain ⟨F, hF⟩ := Classical.axiomOfChoice each
      refine ⟨(List.range len0).map fun i => (F i).1, by simp, by unfold maxLen at hm; omega, fun j hj => ?_, fun y hy => ?_⟩
      · have hj' : j < len0 := by simpa using hj
        obtain ⟨⟨g, o, e, hg, hc⟩, hA, hac, _⟩ := hF j hj'
        have ej : ((List.range len0).map fun i => (F i).1)[j] = (F j).1 := by simp
        rw [ej]
        exact ⟨g, o, (F j).2.1, (F j).2.2, by rw [e], hg, hA, hac, hc⟩
      · obtain ⟨i, hi, rfl⟩ := List.mem_map.1 hy
        exact (hF i (List.mem_range.1 hi)).2.2.2
  clear hA0 hval0
  refine (sounds_any l a0 len0 cap0 hll hlm W hI hO).mono fun e W' ⟨he, bel0⟩ => ?_
  have bel := bel0.below
  subst he
  exact ⟨_, rfl, _, _, _, [], _, [], hW', trodAll_mk1 (shut_bool Try.underlying4 _), (trodAll_cons_mk (Below.trod laidOut (by kernel_rfl) (of_decide_eq_true (by kernel_rfl)) k0 bel lt0) trodAll_mk0), rfl, bel.frame _, fun h => by cases h⟩

theorem over : Rows.treeSoundsRow.holds Try.pinned (OpenSpec.ofChange Rows.treeSoundsSpec) :=
  OpenClaim.holds_of_wide 3 Try.f3 rfl rfl rfl rfl rfl rfl rfl ⟨rfl, rfl, rfl, rfl, rfl⟩ rfl rfl rfl rfl rfl (by kernel_rfl) Try.func3 (by kernel_rfl)
    (of_decide_eq_true (by kernel_rfl)) (by unfold Func.isWrapper; first | (rw [if_pos (by decide +kernel)]; kernel_rfl) | (rw [if_neg (by decide +kernel)]; exact ⟨rfl, rfl⟩))
    (fun os started H enc _ => lifted os started H enc)

theorem proved : Rows.TreeSoundsSaid := over
#print axioms proved
end Go.Proofs.Ytffllhohlfblnab.O.treeSounds

namespace Go.Proofs.Ytffllhohlfblnab
theorem treeSounds_holds : Rows.TreeSoundsSaid := O.treeSounds.proved
#print axioms treeSounds_holds
end Go.Proofs.Ytffllhohlfblnab
