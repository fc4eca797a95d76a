/-
  A row of texts that comes in.
-/
import Derived.Test.YteccdijjpmeeaaaRows
import Derived.Test.YteccdijjpmeeaaaP10
import Derived.WalkKit
import Derived.ProofKit
import Derived.OpenShut
import Derived.ChangeOld
import Derived.Deep.SlicePairs
namespace Go.Proofs.Yteccdijjpmeeaaa
open Go.ChangeShapes Go.WideShapes Go.ChangeAt Go.RowKit
set_option linter.unusedVariables false
set_option maxRecDepth 100000
theorem bulk_pos {H : Type} (d : DataW H) : 1 <= Rows.uptoBulk d := by
 cases d with
 | lit x => cases x <;> simp [Rows.uptoBulk]
 | nil => simp [Rows.uptoBulk]
 | ptr d => simp [Rows.uptoBulk]
 | slice a b => simp [Rows.uptoBulk]
 | agg a => simp [Rows.uptoBulk]
 | iface a d => simp [Rows.uptoBulk]
 | map a => simp [Rows.uptoBulk]
 | held a => simp [Rows.uptoBulk]
theorem bulk_append {H : Type} : ∀ (a b : List (DataW H)), Rows.uptoBulkAll (a ++ b) = Rows.uptoBulkAll a + Rows.uptoBulkAll b
 | [], b => by simp [Rows.uptoBulkAll]
 | d :: r, b => by
  show Rows.uptoBulkAll (d :: (r ++ b)) = _
  simp only [Rows.uptoBulkAll]
  rw [bulk_append r b]
  omega
theorem bulk_range {H : Type} (D : Nat -> DataW H) (φ : Nat -> Nat) : ∀ n, (∀ r, r < n -> φ r <= Rows.uptoBulk (D r)) -> ((List.range n).map φ).sum <= Rows.uptoBulkAll ((List.range n).map D)
 | 0, _ => Nat.zero_le _
 | n + 1, h => by
  rw [List.range_succ, List.map_append, List.map_append, bulk_append, List.sum_append]
  have h1 := bulk_range D φ n (fun r hr => h r (by omega))
  have h2 := h n (by omega)
  simp only [List.map_cons, List.map_nil, List.sum_cons, List.sum_nil, Rows.uptoBulkAll]
  omega
theorem open_rows {H : Type} {enc : TypeId × Value -> H} {W : World} {fuel : Nat} {t e : TypeId} {z : Nat} (ht : Try.prog.underlying t = some (.slice e)) (hz : Try.prog.cellsOf e = z) (hz0 : 0 < z) {v : Value} {d : DataW H} {pl : List MemPlace} (h : DataW.trod enc Try.prog W 0 (fun _ => true) true fuel t [v] = some (d, pl)) :
  ∃ (a : Option Addr) (n c : Nat) (D : Nat -> DataW H), v = .slice a n c /\ n <= c /\ n <= maxLen /\ Rows.uptoBulkAll ((List.range n).map D) + 1 <= Rows.uptoBulk d /\
   ∀ i, i < n -> ∃ g o cs fu pl', a = some ⟨g, o, none⟩ /\ g < W.heap.size /\ cs.length = z /\ DataW.trod enc Try.prog W 0 (fun _ => true) true fu e cs = some (D i, pl') /\ ∀ f, f < z -> W.cell? ⟨g, o + i * z + f, none⟩ = cs[f]? := by
 rcases Go.Deep.open_slice ht h with ⟨hcs, hx⟩ | ⟨a, len, cap, m, n, D, Pl, hcs, _, hl, hm, hmm, hx, hel⟩
 ·injection hcs with hcs
  have hd : d = .nil := congrArg Prod.fst hx
  refine ⟨none, 0, 0, fun _ => .nil, hcs, Nat.le_refl _, Nat.zero_le _, by rw [hd]; simp [Rows.uptoBulkAll, Rows.uptoBulk], fun i hi => absurd hi (Nat.not_lt_zero _)⟩
 ·injection hcs with hcs
  have hlm : len <= m := by rw [hmm]; split <;> omega
  have hd : d = .slice ((List.range len).map D) ((List.range (m - len)).map fun j => D (len + j)) := congrArg Prod.fst hx
  refine ⟨some a, len, cap, D, hcs, hl, Nat.le_trans hl hm, by rw [hd]; simp only [Rows.uptoBulk]; omega, fun i hi => ?_⟩
  obtain ⟨cs', hc1, hc2⟩ := hel i (by omega)
  rw [hz] at hc1
  obtain ⟨_, hlen, hcell⟩ := World.cells?_some hc1
  obtain ⟨g, o, sp⟩ := a
  obtain ⟨cs0, hz1, hz2⟩ := hel 0 (by omega)
  rw [hz] at hz1
  obtain ⟨_, hlen0, hcell0⟩ := World.cells?_some hz1
  have c00 := hcell0 0 (by omega)
  have hcc : ∃ u, cs0[0]? = some u := ⟨_, List.getElem?_eq_getElem (by omega)⟩
  obtain ⟨u0, hu0⟩ := hcc
  have c00' : W.cell? ⟨g, o, sp⟩ = some u0 := by simpa [Addr.add, hu0] using c00
  have hsp : sp = none := World.cell?_spot c00'
  subst hsp
  refine ⟨g, o, cs', n, Pl i, rfl, World.block_lt_of_cell? W _ c00', hlen, hc2, fun f hf => ?_⟩
  have := hcell f (by omega)
  rw [Addr.add_lit, Addr.add_lit] at this
  rw [this]
/-- Texts in a row. -/
def RowT (w : World) (a : Option Addr) (l : List ByteArray) : Prop := ∀ j (h : j < l.length), ∃ g o, a = some ⟨g, o, none⟩ ∧ g < w.heap.size ∧ w.cell? ⟨g, o + j, none⟩ = some (.string l[j])
def totT (l : List ByteArray) : Nat := (l.map fun s => s.size + 1).sum
theorem open_strs {H : Type} {enc : TypeId × Value → H} {W : World} {fuel : Nat} {v : Value} {d : DataW H} {pl : List MemPlace} (h : DataW.trod enc Try.prog W 0 (fun _ => true) true fuel 41 [v] = some (d, pl)) :
    ∃ (a : Option Addr) (c : Nat) (l : List ByteArray), v = .slice a l.length c ∧ RowT W a l ∧ totT l + 1 ≤ Rows.uptoBulk d := by
  have one9 : Try.prog.cellsOf 9 = 1 := by kernel_rfl
  obtain ⟨a, n, c, D, hv, hnc, -, hb, hel⟩ := open_rows Try.underlying41 one9 (by omega) h
  have each : ∀ i, ∃ s : ByteArray, i < n → s.size + 1 ≤ Rows.uptoBulk (D i) ∧ ∃ g o, a = some ⟨g, o, none⟩ ∧ g < W.heap.size ∧ W.cell? ⟨g, o + i, none⟩ = some (.string s) := by
    intro i
    by_cases hi : i < n
    · obtain ⟨g, o, cs, fu, pl', e, hg, hl, ht, hc⟩ := hel i hi
      match cs, hl with
      | [v0], _ =>
        obtain ⟨s, es, xs, _⟩ := DataW.trod_string Try.underlying9 ht
        injection es with es
        refine ⟨s, fun _ => ⟨?_, g, o, e, hg, ?_⟩⟩
        · have hx : D i = .lit (.string s.data.toList) := by first | exact xs | exact congrArg Prod.fst xs
          rw [hx]
          have q1 : s.data.toList.length = s.size := rfl
          simp only [Rows.uptoBulk]
          omega
        · have := hc 0 (by omega)
          rw [es, Nat.mul_one] at this
          exact this
    · exact ⟨⟨#[]⟩, fun h => absurd h hi⟩
  obtain ⟨F, hF⟩ := Classical.axiomOfChoice each
  refine ⟨a, c, (List.range n).map F, by rw [hv]; simp, fun j hj => ?_, ?_⟩
  · have hj' : j < n := by simpa using hj
    obtain ⟨_, g, o, e, hg, c0⟩ := hF j hj'
    refine ⟨g, o, e, hg, ?_⟩
    rw [c0]; simp
  · have := bulk_range D (fun i => (F i).size + 1) n (fun r hr => (hF r hr).1)
    unfold totT
    rw [List.map_map]
    have e : ((fun s : ByteArray => s.size + 1) ∘ F) = fun i => (F i).size + 1 := rfl
    rw [e]
    omega
end Go.Proofs.Yteccdijjpmeeaaa
