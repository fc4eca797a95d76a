/-
  For every row of rows of bytes of bulk at most 1048576 the Go function portierelaw08.DomGiven returns true, and its argument reads afterwards as before.
-/
import Derived.Test.YtbbknbipppaemaaRows
import Derived.Test.YtbbknbipppaemaaGe
import Derived.WalkKit
import Derived.ProofKit
import Derived.OpenShut
import Derived.ShutString
import Derived.ChangeOld
import Derived.Below
import Derived.SizedLaws
import Derived.JoinedCond
import Derived.Deep.Matrix
namespace Go.Proofs.Ytbbknbipppaemaa.domGivenUpto
open Go.ChangeShapes Go.WideShapes Go.ChangeAt Go.RowKit Go.Deep
set_option linter.unusedVariables false

theorem own : ownKnob Try.prog.godebug = none := by kernel_rfl
theorem laidOut : laidOutB Try.prog = true := by kernel_rfl

theorem bulk_append {H : Type} : ∀ (a b : List (DataW H)), Rows.uptoBulkAll (a ++ b) = Rows.uptoBulkAll a + Rows.uptoBulkAll b
  | [], b => by simp [Rows.uptoBulkAll]
  | d :: r, b => by
    show Rows.uptoBulkAll (d :: (r ++ b)) = _
    simp only [Rows.uptoBulkAll]
    rw [bulk_append r b]
    omega
theorem bulk_lits {H : Type} (k : IntKind) : ∀ (zs : List Int), Rows.uptoBulkAll (lits (H := H) k zs) = zs.length
  | [] => by simp [lits, Rows.uptoBulkAll]
  | z :: r => by
    have := bulk_lits (H := H) k r
    unfold lits at this ⊢
    rw [List.map_cons]
    simp only [Rows.uptoBulkAll, Rows.uptoBulk]
    rw [this, List.length_cons]
    omega
theorem bulk_rows {H : Type} (g : Nat → DataW H) (R : Nat → List UInt8) : ∀ n, (∀ r, r < n → (R r).length + 1 ≤ Rows.uptoBulk (g r)) → tot R n ≤ Rows.uptoBulkAll ((List.range n).map g)
  | 0, _ => Nat.zero_le _
  | n + 1, h => by
    rw [List.range_succ, List.map_append, bulk_append]
    have h1 := bulk_rows g R n (fun r hr => h r (by omega))
    have h2 := h n (by omega)
    show tot R n + ((R n).length + 1) ≤ _ + Rows.uptoBulkAll [g n]
    simp only [Rows.uptoBulkAll]
    omega
theorem bulk_row {H : Type} (a : Option Addr) (L : Nat) (zs : List Int) (h : L ≤ zs.length) (h0 : a = none → L = 0) : L + 1 ≤ Rows.uptoBulk (intRow (H := H) .u8 a L zs) := by
  cases a with
  | none =>
    rw [h0 rfl]
    simp [intRow, Rows.uptoBulk]
  | some x =>
    simp only [intRow, Rows.uptoBulk]
    rw [bulk_lits, List.length_take]
    omega
/-- One row that came in. -/
theorem row_one {w : World} {a : Option Addr} {len cap : Nat} {zs : List Int} (h1 : len ≤ cap) (h3 : zs.length = cap) (h4 : ∀ n ∈ zs, (Lit.int .u8 n).wf = true) (h5 : a = none → cap = 0)
    (h6 : ∀ x, a = some x → ∀ c, c < cap → w.cell? (x.add c) = some (.int .u8 (zs.getD c 0))) :
    ∃ bs : List UInt8, bs.length = len ∧ ∀ j (h : j < bs.length), ∃ x o, a = some ⟨x, o, none⟩ ∧ x < w.heap.size ∧ w.cell? ⟨x, o + j, none⟩ = some (.int .u8 (bs[j].toNat : Int)) := by
  refine ⟨(zs.take len).map fun n => UInt8.ofNat n.toNat, by simp; omega, fun j hj => ?_⟩
  simp at hj
  cases a with
  | none => have := h5 rfl; omega
  | some x =>
    obtain ⟨g, o, sp⟩ := x
    have hc := h6 _ rfl j (by omega)
    have hc0 := h6 _ rfl 0 (by omega)
    have hsp : sp = none := by simpa [Addr.add] using World.cell?_spot hc0
    subst hsp
    rw [Addr.add_lit] at hc
    refine ⟨g, o, rfl, World.block_lt_of_cell? w _ hc, ?_⟩
    rw [hc]
    have hj' : j < zs.length := by omega
    have hb := bounds_u8 (h4 zs[j] (List.getElem_mem hj'))
    simp [hj']
    omega

set_option maxRecDepth 100000 in
theorem contract (H : Type) (enc : TypeId × Value → H) (W : World) (base : Nat) (args : Array Value) (ds gs : List (DataW H)) (before : List MemPlace)
    (hval0 : ∀ (j : Nat) t v, Try.f7.params[j]? = some t → args[j]? = some v → Value.okWide Try.prog W .any base t v)
    (hW : DataW.Whole enc Try.prog Try.f7.params.toList Rows.domGivenSpec.vars false W args.toList ds gs before) (hk : Rows.uptoSmall H (ds ++ gs) = true) :
    Calls Try.prog 7 args W fun e W' => ∃ v, e = .returned v ∧ Rows.domGivenSpec.post enc Try.prog Try.f7 false true false false W args v W' := by
  have hval : ∀ (j : Nat) t v, Try.f7.params[j]? = some t → args[j]? = some v → Value.okWide Try.prog W .any base t v := hval0
  have hW' := hW
  obtain ⟨p, q, hA0, hV, rfl, hfz, hnd⟩ := hW
  have hA : DataW.TrodAll enc Try.prog W 0 (fun _ => true) true Try.f7.params.toList args.toList ds p := hA0
  rw [Try.params7] at hA hval
  obtain ⟨v0, vs0, d0, ds0, p0, q0, hargs, rfl, rfl, h0, r0⟩ := trodAll_cons hA
  obtain ⟨rfl, rfl, rfl⟩ := trodAll_nil r0
  obtain rfl : args = #[v0] := by cases args; simp_all
  obtain ⟨rfl, rfl⟩ := trodVars_none hV
  obtain ⟨a0, len0, cap0, rfl⟩ := okWide_slice Try.underlying50 (hval 0 50 v0 rfl rfl)
  have k0 := h0
  have lt0 : ∀ x ∈ p0, x.block < W.heap.size := by obtain ⟨m, hm⟩ := k0; exact DataW.trod_lt m _ _ _ hm
  have hbulk : Rows.uptoBulk d0 ≤ 1048576 := by
    have h : Rows.uptoBulkAll ([d0] ++ []) ≤ 1048576 := of_decide_eq_true hk
    simp only [List.append_nil, Rows.uptoBulkAll] at h
    omega
  obtain ⟨A, C, R, hrows, htot⟩ : ∃ A C R, RowsU W a0 len0 A C R ∧ tot R len0 ≤ 1048576 := by
    obtain ⟨fuel, hf⟩ := h0
    rcases open_int_rows Try.underlying50 Try.underlying51 Try.underlying5 (by kernel_rfl) (by kernel_rfl) hf with ⟨hcs, _⟩ | ⟨x, l, c, A, L, C, Z, hcs, _, hl, hm, hx, hr⟩
    · simp [Value.cells] at hcs
      obtain ⟨rfl, rfl, rfl⟩ := hcs
      exact ⟨fun _ => none, fun _ => 0, fun _ => [], ⟨fun r h => by omega, fun r h => by omega⟩, Nat.zero_le _⟩
    · simp [Value.cells] at hcs
      obtain ⟨rfl, rfl, rfl⟩ := hcs
      have hd : d0 = .slice ((List.range len0).map fun r => intRow .u8 (A r) (L r) (Z r)) ((List.range (cap0 - len0)).map fun j => intRow .u8 (A (len0 + j)) (L (len0 + j)) (Z (len0 + j))) := congrArg Prod.fst hx
      have hch : ∀ r, ∃ bs : List UInt8, r < len0 → bs.length = L r ∧ ∀ j (h : j < bs.length), ∃ x o, A r = some ⟨x, o, none⟩ ∧ x < W.heap.size ∧ W.cell? ⟨x, o + j, none⟩ = some (.int .u8 (bs[j].toNat : Int)) := by
        intro r
        by_cases hrl : r < len0
        · obtain ⟨_, q2, q3, q4, q5, q6, q7⟩ := hr r (by omega)
          obtain ⟨bs, b1, b2⟩ := row_one q2 q4 q5 q6 (fun y hy c hc => (q7 y hy).2 c hc)
          exact ⟨bs, fun _ => ⟨b1, b2⟩⟩
        · exact ⟨[], fun h => absurd h hrl⟩
      obtain ⟨R, hR⟩ := Classical.axiomOfChoice hch
      refine ⟨A, C, R, ⟨fun r hrl => ?_, fun r hrl => (hR r hrl).2⟩, ?_⟩
      · obtain ⟨xb, xo, xs⟩ := x
        have hc := (hr r (by omega)).1
        have hc0 := (hr 0 (by omega)).1
        have hsp : xs = none := by simpa [Addr.add] using World.cell?_spot hc0
        subst hsp
        rw [Addr.add_lit] at hc
        refine ⟨xb, xo, rfl, World.block_lt_of_cell? W _ hc, ?_⟩
        rw [hc, (hR r hrl).1]
      · rw [hd] at hbulk
        simp only [Rows.uptoBulk] at hbulk
        have := bulk_rows (fun r => intRow (H := H) .u8 (A r) (L r) (Z r)) R len0 (fun r hrl => by
          obtain ⟨_, q2, q3, q4, q5, q6, q7⟩ := hr r (by omega)
          rw [(hR r hrl).1]
          exact bulk_row _ _ _ (by omega) (fun e => by have := q6 e; omega))
        omega
  clear hA0 hval0
  have hwalk : Calls Try.prog 7 #[.slice a0 len0 cap0] W fun e w' => e = .returned (.bool true) ∧ Kept (fun k => k < W.heap.size) W w' := by
    by_cases c : tot R len0 ≤ 150
    · exact given_few a0 len0 cap0 A C R W hrows c
    · exact given_many a0 len0 cap0 A C R W hrows (by omega) (by omega)
  refine hwalk.mono fun e W' ⟨he, bel0⟩ => ?_
  have bel := bel0.below
  subst he
  exact ⟨_, rfl, _, _, _, [], _, [], hW', trodAll_mk1 (shut_bool Try.underlying4 _), (trodAll_cons_mk (Below.trod laidOut (by kernel_rfl) (of_decide_eq_true (by kernel_rfl)) k0 bel lt0) trodAll_mk0), rfl, bel.frame _, fun h => by cases h⟩

set_option maxRecDepth 100000 in
theorem lifted (os : Os) (started : os.Started) (H : Type) (enc : TypeId × Value → H) (F : Stop.Interp) :
    ReturnsInHanded {} Try.checked os 7 .any ((Rows.OpenSpec.upto Rows.domGivenSpec).pre6 enc Try.prog Try.f7 Rows.domGivenUptoRow.domain false) (((Rows.OpenSpec.upto Rows.domGivenSpec).at F).post enc Try.prog Try.f7 false true false false) := by
  refine returnsInHanded_of_cond (C := Try.checked) (s := Rows.OpenSpec.upto Rows.domGivenSpec) (k := Rows.uptoSmall) rfl own started (by kernel_rfl) Try.func7
    (OpenSpec.witness (enc := enc) (C := Try.checked) (s := Rows.OpenSpec.upto Rows.domGivenSpec) (k := Rows.uptoSmall) rfl false ⟨#[], #[.slice none 0 0], []⟩ 8 (by kernel_rfl) (by kernel_rfl) (by kernel_rfl)
      (x := ([.nil], [], [])) (by kernel_rfl) rfl (by kernel_rfl)) ?_
  intro W base args ds gs before hval hW _ hk _
  exact contract H enc W base args ds gs before hval hW hk

theorem proved : Rows.DomGivenUptoSaid :=
  OpenClaim.holds_of_cond 7 Try.f7 rfl rfl rfl rfl rfl rfl rfl ⟨rfl, rfl, rfl, rfl, rfl⟩ rfl rfl rfl rfl rfl (by kernel_rfl) Try.func7 (by kernel_rfl)
    (of_decide_eq_true (by kernel_rfl)) (by unfold Func.isWrapper; first | (rw [if_pos (by decide +kernel)]; kernel_rfl) | (rw [if_neg (by decide +kernel)]; exact ⟨rfl, rfl⟩))
    (fun os started H enc _ F => lifted os started H enc F)
end Go.Proofs.Ytbbknbipppaemaa.domGivenUpto

namespace Go.Proofs.Ytbbknbipppaemaa
theorem domGivenUpto_holds : Rows.DomGivenUptoSaid := domGivenUpto.proved
#print axioms domGivenUpto_holds
end Go.Proofs.Ytbbknbipppaemaa
