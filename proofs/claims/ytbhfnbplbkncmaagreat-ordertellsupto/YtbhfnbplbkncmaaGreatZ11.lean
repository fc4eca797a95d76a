/-
  Doc.Node of a document, and Doc.Copy.
  What stays so (Good): rows, ways upwards, few attributes; behind Make and Insert.
-/
import Derived.Test.YtbhfnbplbkncmaaGreatZ10
import Derived.Test.YtbhfnbplbkncmaaGreatZ08
import Derived.Laws.MakeOwn
import Derived.Laws.CopyRow
namespace Go.Proofs.YtbhfnbplbkncmaaGreat
open Go.RowKit
set_option linter.unusedVariables false

/-- No node has more attributes than may be. -/
def Few (S : Dm) : Prop := ∀ i, i < S.n → (S.nd i).attrs.length ≤ 1000
theorem node_any (K : Nat → Prop) (p i : Nat) (S : Dm) (R : Nat → List Nat) (w : World) (h : DX K w p S) (hW : WF S.n S.pl R) (hi : i < S.n) (hn : S.n ≤ 1000000) (hf : Few S) :
    Calls Tryz.prog 24 #[.pointer (some ⟨p, 0, none⟩), .int .i64 (i : Int)] w fun e w' => Told w (S.nd i) (S.pl i).up (R i) e w' := by
  obtain ⟨ga, cap, hY⟩ := h
  obtain ⟨g, rfl, -, -, hgl⟩ := hY.at (by omega)
  obtain ⟨aa, ac, hc, hO⟩ := hY.cell hi
  exact node_go p g S.n cap i w hY.c1 hY.plt hgl hi hn (S.nd i).kind ⟨(S.nd i).name.toArray⟩ ⟨(S.nd i).data.toArray⟩ aa _ ac _ _ _ _ (S.nd i).fl (S.nd i).attrs (R i) (hc 0 _ rfl) (hc 1 _ rfl) (hc 2 _ rfl) (hc 3 _ rfl) (hc 4 _ rfl) (hc 5 _ rfl) (hc 6 _ rfl) (hc 7 _ rfl) (hc 8 _ rfl) (hc 9 _ rfl) (hc 10 _ rfl) (hc 11 _ rfl) (hc 12 _ rfl)
    (fun X hX => copyA_any (S.nd i).attrs aa _ ac rfl (by have := hf i hi; omega) X ((hO.atsAt (K' := fun k => k < w.heap.size) fun g hg => (OwnZ.out hO hg).2).kept hX fun k h => Nat.lt_of_lt_of_le h hX.size))
    (fun X hX => rowP K p g cap i S R X (hY.kept hX) hW hi (by omega))

section
variable {P : Program}
/-- copy of a whole row of elements of z cells each. -/
theorem run_copyZ (w : World) (t elem : TypeId) (ty : TypeId) (i : TypeInfo) (z g n dCap sCap : Nat) (a : Addr) (cur : Array Value) (cs : List Value)
    (hu : P.underlying t = some (.slice elem)) (hi : P.info? elem = some i) (hz : i.size = z)
    (hg : w.heap[g]? = some (.cells cur elem (0, 0))) (hn : cs.length = n * z) (hcur : cur.size = n * z)
    (hsrc : ∀ j v, cs[j]? = some v → w.cell? (a.add j) = some v) (h1 : ∀ v ∈ cs, v.oneCell' = true) :
    (Builtin.copy_ #[t, t] ty #[.slice (some ⟨g, 0, none⟩) n dCap, .slice (some a) n sCap]).run P w = .ok (goInt n) (w.setRow g cs.toArray) := by
  subst hz
  have hl := run_loadCells_list (P := P) w a cs hsrc
  have hst := run_storeCells_at P g 0 elem cs 0 cur w hg (by omega) h1
  simp only [Nat.zero_add, List.take_zero, List.nil_append, List.drop_eq_nil_of_le (show cur.toList.length ≤ cs.length by simp; omega), List.append_nil] at hst
  rw [hn] at hl
  simp [Builtin.copy_, run_underlying hu, Builtin.lenOf, Builtin.firstCells, sizeOf, typeInfo, hi, hl, hst]
end
/-- A copy under way: at G the nodes' cells; of the first j nodes the attributes are copied. -/
def Cpy (S : Dm) (w : World) (G j : Nat) (wr : World) : Prop :=
  ∃ (cur : Array Value) (aa : Nat → Option Addr) (ac : Nat → Nat), wr.heap[G]? = some (.cells cur 94 (0, 0)) ∧ cur.size = S.n * 22 ∧
    (∀ i, i < S.n → ∀ f u, (S.cells i (aa i) (ac i))[f]? = some u → cur.toList[i * 22 + f]? = some u) ∧
    (∀ i, i < j → OwnZ (fun k => k < w.heap.size ∨ k = G) wr 140 2 (aa i) (S.nd i).attrs.length (ac i) (atrCells (S.nd i).attrs)) ∧
    (∀ i k, i < j → k < j → i ≠ k → ∀ g, blkOf (aa i) g → ¬ blkOf (aa k) g) ∧
    (∀ i, j ≤ i → i < S.n → AtsAt (fun k => k < w.heap.size) wr (aa i) (S.nd i).attrs) ∧ Kept (fun k => k < w.heap.size) w wr
theorem Cpy.next {S : Dm} {w : World} {j : Nat} {wr : World} (h : Cpy S w w.heap.size j wr) (hj : j < S.n) :
    ∃ aa ac, wr.cell? ⟨w.heap.size, j * 22 + 3, none⟩ = some (.slice aa (S.nd j).attrs.length ac) ∧ AtsAt (fun k => k < wr.heap.size) wr aa (S.nd j).attrs ∧ w.heap.size < wr.heap.size ∧
      ∀ ao c w2, OwnZ (fun k => k < wr.heap.size) w2 140 2 ao (S.nd j).attrs.length c (atrCells (S.nd j).attrs) → Kept (fun k => k < wr.heap.size) wr w2 → (∃ u, w2.cell? ⟨w.heap.size, j * 22 + 3, none⟩ = some u) ∧ w2.frozen? ⟨w.heap.size, j * 22 + 3, none⟩ = false ∧ Cpy S w w.heap.size (j + 1) (w2.setCell ⟨w.heap.size, j * 22 + 3, none⟩ (.slice ao (S.nd j).attrs.length c)) := by
  obtain ⟨cur, aa, ac, hb, hs, hx, hO, hD, hA, hK⟩ := h
  have hG := lt_block hb
  have h22 : j * 22 + 22 ≤ S.n * 22 := by have := Nat.mul_le_mul_right 22 hj; omega
  refine ⟨aa j, ac j, ?_, (hA j (Nat.le_refl _) hj).kept (Kept.refl _ wr) (fun k h => Nat.lt_of_lt_of_le h hK.size), hG, fun ao c w2 hO2 hK2 => ?_⟩
  · rw [cell_block hb, ← Array.getElem?_toList]
    exact hx j hj 3 _ rfl
  · have hb2 : w2.heap[w.heap.size]? = some (.cells cur 94 (0, 0)) := by rw [hK2.block _ hG]; exact hb
    have hc2 : w2.cell? ⟨w.heap.size, j * 22 + 3, none⟩ = some (.slice (aa j) (S.nd j).attrs.length (ac j)) := by
      rw [cell_block hb2, ← Array.getElem?_toList]
      exact hx j hj 3 _ rfl
    refine ⟨⟨_, hc2⟩, frozen_block hb2 _, cur.setIfInBounds (j * 22 + 3) (.slice ao (S.nd j).attrs.length c), fun k => if k = j then ao else aa k, fun k => if k = j then c else ac k, heap_setCell_at hb2 _ _, by simp [hs], ?_, ?_, ?_, ?_, ?_⟩
    · intro i hi f u hu
      dsimp only at hu
      rw [Array.toList_setIfInBounds]
      have hf' : f < 22 := by
        rcases Nat.lt_or_ge f 22 with hh | hh
        · exact hh
        · rw [List.getElem?_eq_none (by rw [Dm.cells_len]; exact hh)] at hu; cases hu
      by_cases ci : i = j
      · subst ci
        rw [if_pos rfl, if_pos rfl] at hu
        by_cases cf : f = 3
        · subst cf
          rw [List.getElem?_set_self (by simp; omega)]
          exact hu
        · rw [List.getElem?_set_ne (by omega)]
          refine hx i hi f u ?_
          rw [← hu]
          unfold Dm.cells ndCells
          match f, cf, hf' with
          | 0, _, _ => rfl
          | 1, _, _ => rfl
          | 2, _, _ => rfl
          | 4, _, _ => rfl
          | 5, _, _ => rfl
          | 6, _, _ => rfl
          | 7, _, _ => rfl
          | 8, _, _ => rfl
          | 9, _, _ => rfl
          | 10, _, _ => rfl
          | 11, _, _ => rfl
          | 12, _, _ => rfl
          | 13, _, _ => rfl
          | 14, _, _ => rfl
          | 15, _, _ => rfl
          | 16, _, _ => rfl
          | 17, _, _ => rfl
          | 18, _, _ => rfl
          | 19, _, _ => rfl
          | 20, _, _ => rfl
          | 21, _, _ => rfl
      · rw [if_neg ci, if_neg ci] at hu
        rw [List.getElem?_set_ne (by omega)]
        exact hx i hi f u hu
    · intro i hi
      dsimp only
      have keep : ∀ g, g ≠ w.heap.size → (w2.setCell ⟨w.heap.size, j * 22 + 3, none⟩ (.slice ao (S.nd j).attrs.length c)).heap[g]? = w2.heap[g]? := fun g hg => Below.heap_setCell _ _ _ _ hg
      by_cases ci : i = j
      · subst ci
        rw [if_pos rfl, if_pos rfl]
        have hout := fun g (hg : blkOf ao g) => OwnZ.out hO2 hg
        refine OwnZ.to hO2 (fun g hg hh => ?_) (fun g hg => keep g (fun e => (hout g hg).1 (by rw [e]; exact hG)))
        rcases hh with hh | hh
        · exact (hout g hg).1 (Nat.lt_of_lt_of_le hh hK.size)
        · exact (hout g hg).1 (by rw [hh]; exact hG)
      · rw [if_neg ci, if_neg ci]
        have hio := hO i (by omega)
        have hout := fun g (hg : blkOf (aa i) g) => OwnZ.out hio hg
        refine OwnZ.to hio (fun g hg => (hout g hg).1) (fun g hg => ?_)
        rw [keep g (fun e => (hout g hg).1 (.inr e)), hK2.block g (hout g hg).2]
    · intro i k hi hk hik g hg hh
      dsimp only at hg hh
      by_cases ci : i = j
      · subst ci
        rw [if_pos rfl] at hg
        rw [if_neg (by omega)] at hh
        exact (OwnZ.out hO2 hg).1 (OwnZ.out (hO k (by omega)) hh).2
      · rw [if_neg ci] at hg
        by_cases ck : k = j
        · subst ck
          rw [if_pos rfl] at hh
          exact (OwnZ.out hO2 hh).1 (OwnZ.out (hO i (by omega)) hg).2
        · rw [if_neg ck] at hh
          exact hD i k (by omega) (by omega) hik g hg hh
    · intro i hi1 hi2
      dsimp only
      rw [if_neg (by omega)]
      have k1 : Kept (fun k => k < w.heap.size) wr (w2.setCell ⟨w.heap.size, j * 22 + 3, none⟩ (.slice ao (S.nd j).attrs.length c)) := (hK2.mono fun k h => Nat.lt_of_lt_of_le h hK.size).setCell (p := ⟨w.heap.size, j * 22 + 3, none⟩) (Nat.lt_irrefl _) _
      exact (hA i (by omega) hi2).kept k1 fun _ h => h
    · exact (hK.trans (hK2.mono fun k h => Nat.lt_of_lt_of_le h hK.size)).setCell (p := ⟨w.heap.size, j * 22 + 3, none⟩) (Nat.lt_irrefl _) _
/-- All attributes are copied: a document of its own. -/
theorem Cpy.done {S : Dm} {w wr : World} (h : Cpy S w w.heap.size S.n wr) (hn : S.n ≤ maxLen) : DX (fun k => k < w.heap.size) (wr.alloc (.cells #[.int .i64 (S.limit : Int), .slice (some ⟨w.heap.size, 0, none⟩) S.n S.n] 87)) wr.heap.size S ∧ Kept (fun k => k < w.heap.size) w (wr.alloc (.cells #[.int .i64 (S.limit : Int), .slice (some ⟨w.heap.size, 0, none⟩) S.n S.n] 87)) ∧ w.heap.size ≤ wr.heap.size := by
  obtain ⟨cur, aa, ac, hb, hs, hx, hO, hD, hA, hK⟩ := h
  have hG := lt_block hb
  have hle := hK.size
  refine ⟨⟨_, _, fun k hk => ?_, fun hh => ?_, heap_alloc_new wr _, cur.toList, aa, ac, ⟨by simp [hs], Nat.le_refl _, hn, .inr ⟨w.heap.size, cur, rfl, ?_, heap_alloc_past hb _, hs, ?_⟩⟩, hx, fun i hi => ?_, fun i k hi hk => hD i k hi hk⟩, hK.alloc (fun k hk => Nat.lt_of_lt_of_le hk hle) _, hle⟩
  · have : k < w.heap.size := hk
    simp; omega
  · have : wr.heap.size < w.heap.size := hh
    omega
  · rintro (hh | hh)
    · have : w.heap.size < w.heap.size := hh
      omega
    · omega
  · rw [← hs]; exact List.take_of_length_le (by simp)
  · have hio := hO i hi
    refine OwnZ.to hio (fun g hg hh => ?_) (fun g hg => Below.heap_alloc _ _ _ (OwnZ.out hio hg).2)
    rcases hh with hh | hh | hh
    · exact (OwnZ.out hio hg).1 (.inl hh)
    · have := (OwnZ.out hio hg).2
      omega
    · injection hh with hh
      injection hh with hh
      exact (OwnZ.out hio hg).1 (.inr hh.symm)

set_option maxRecDepth 20000 in
/-- The beginning of a copy. -/
theorem Cpy.start {K : Nat → Prop} {S : Dm} {w : World} {p g cap : Nat} (h : DY K w p S (some ⟨g, 0, none⟩) cap) (mc : Array Value) (hmc : mc.size = S.n * 22) :
    ∃ cs : List Value, (Builtin.copy_ #[85, 85] 3 #[.slice (some ⟨w.heap.size, 0, none⟩) S.n S.n, .slice (some ⟨g, 0, none⟩) S.n cap]).run Tryz.prog (w.alloc (.cells mc 94)) = .ok (goInt S.n) ((w.alloc (.cells mc 94)).setRow w.heap.size cs.toArray) ∧ Cpy S w w.heap.size 0 ((w.alloc (.cells mc 94)).setRow w.heap.size cs.toArray) := by
  obtain ⟨gk, gp, gl⟩ := h.gk
  obtain ⟨h1, h2, h3, xs, aa, ac, ho, hx, hat, hs⟩ := h
  obtain ⟨inf, hi, hip⟩ := Option.map_eq_some_iff.1 infoN
  have hsz : inf.size = 22 := congrArg (·.2.1) hip
  have hlx : xs.length = S.n * 22 := ho.1
  have kA : Kept (fun k => k < w.heap.size) w (w.alloc (.cells mc 94)) := (Kept.refl _ w).alloc (fun _ h => h) _
  have hone : ∀ v ∈ xs, v.oneCell' = true := by
    intro v hv
    obtain ⟨j, hj, e⟩ := List.mem_iff_getElem.1 hv
    have hjn : j / 22 < S.n := by
      rw [hlx] at hj
      omega
    have hl : j % 22 < (S.cells (j / 22) (aa (j / 22)) (ac (j / 22))).length := by rw [Dm.cells_len]; omega
    have := hx (j / 22) hjn (j % 22) _ (List.getElem?_eq_getElem hl)
    rw [show j / 22 * 22 + j % 22 = j from by omega, List.getElem?_eq_getElem hj, e] at this
    injection this with this
    rw [this]
    exact nd_one _ _ _ _ _ _ (List.getElem_mem hl)
  refine ⟨xs, ?_, ?_⟩
  · refine run_copyZ (P := Tryz.prog) _ 85 94 3 inf 22 w.heap.size S.n S.n cap ⟨g, 0, none⟩ mc xs Tryz.underlying85 hi hsz (heap_alloc_new w _) hlx hmc (fun j v hj => ?_) hone
    obtain ⟨g', e, hc⟩ := ho.cell hj
    injection e with e
    injection e with e
    subst e
    rw [Addr.add_lit, Nat.zero_add, kA.cell (p := ⟨g, j, none⟩) gl]
    exact hc
  · refine ⟨xs.toArray, aa, ac, setRow_heap _ _ _ _ _ _ (heap_alloc_new w _), by simp [hlx], fun i hi f u hu => by simpa using hx i hi f u hu, fun i hi => absurd hi (Nat.not_lt_zero _), fun i k hi => absurd hi (Nat.not_lt_zero _), fun i _ hi => ?_, kept_setRow kA (Nat.lt_irrefl _) _⟩
    have hio := hat i hi
    have := hio.atsAt (K' := fun k => k < w.heap.size) fun g hg => (OwnZ.out hio hg).2
    exact this.kept (kept_setRow kA (Nat.lt_irrefl _) _) fun _ h => h


end Go.Proofs.YtbhfnbplbkncmaaGreat

namespace Go.Proofs.YtbhfnbplbkncmaaGreat
open Go.RowKit
set_option linter.unusedVariables false

structure Good (M : Dm) (R : Nat → List Nat) (rk : Nat → Nat) : Prop where
  wf : WF M.n M.pl R
  acy : Acy M rk
  few : Few M
theorem Good.new (limit : Nat) : Good (Dm.new limit) (fun _ => []) (fun _ => 0) := by
  have hpl : ∀ k, ((Dm.new limit).pl k) = Lk.nil := fun k => by
    show updL (fun _ => Lk.nil) 0 Lk.nil k = Lk.nil
    unfold updL
    split <;> rfl
  refine ⟨⟨fun u hu => by rw [hpl]; rfl, fun u hu => by rw [hpl]; rfl, fun u hu => trivial, fun u hu => List.nodup_nil, fun u hu i hi => (by cases hi), fun i hi => .inl (by rw [hpl]; rfl)⟩, fun k hk => .inl ?_, fun i hi => ?_⟩
  · have hk0 : k = 0 := by have : k < 0 + 1 := hk; omega
    subst hk0
    unfold parI
    rw [hpl]
    rfl
  · have hk0 : i = 0 := by have : i < 0 + 1 := hi; omega
    subst hk0
    show (0 : Nat) ≤ 1000
    omega
theorem add_par {M : Dm} {x : Nd} {k : Nat} (hk : k < M.n) : parI (M.add x) k = parI M k := by
  have c : ¬ k = M.n := by omega
  unfold parI
  simp only [Dm.add, updL, if_neg c]
theorem add_par_new {M : Dm} {x : Nd} : parI (M.add x) M.n = -1 := by
  unfold parI
  simp [Dm.add, updL, Lk.nil, Nd.new]
theorem Good.add {M : Dm} {R : Nat → List Nat} {rk : Nat → Nat} (h : Good M R rk) (x : Nd) (hx : x.attrs.length ≤ 1000) : Good (M.add x) (updR R M.n []) rk := by
  refine ⟨h.wf.more _ (fun k hk => updL_ne _ _ (by omega)) (updL_same _ _ _), fun k hk => ?_, fun i hi => ?_⟩
  · have : k < M.n + 1 := hk
    by_cases c : k = M.n
    · subst c; exact .inl add_par_new
    · have hk' : k < M.n := by omega
      rw [add_par hk']
      rcases h.acy k hk' with h0 | ⟨m, h1, h2, h3⟩
      · exact .inl h0
      · exact .inr ⟨m, by show m < M.n + 1; omega, h2, h3⟩
  · have : i < M.n + 1 := hi
    by_cases c : i = M.n
    · subst c
      show (if M.n = M.n then x.new else M.nd M.n).attrs.length ≤ 1000
      rw [if_pos rfl]; exact hx
    · show (if i = M.n then x.new else M.nd i).attrs.length ≤ 1000
      rw [if_neg c]; exact h.few i (by omega)
open Classical in
theorem Acy.move {M M' : Dm} {rk : Nat → Nat} {i up : Nat} (h : Acy M rk) (hn : M'.n = M.n) (hu : up < M.n) (hw : ¬ Wi M i up) (hp : ∀ k, k < M.n → parI M' k = parI M k ∨ (Wi M i k ∧ parI M' k = (up : Int))) :
    Acy M' (fun k => if Wi M i k then rk k + rk up + 1 else rk k) := by
  -- upwards the ranks fall
  have mono : ∀ j k, k < M.n → Wi M j k → rk j ≤ rk k := by
    intro j k hk hwi
    induction hwi with
    | here => exact Nat.le_refl _
    | @up k m e _ ih =>
      rcases h k hk with h0 | ⟨q, h1, h2, h3⟩
      · omega
      · have : m = q := by omega
        subst this
        have := ih h1
        omega
  intro k hk
  rw [hn] at hk
  dsimp only
  rcases hp k hk with e | ⟨hwk, e⟩
  · rw [e]
    rcases h k hk with h0 | ⟨m, h1, h2, h3⟩
    · exact .inl h0
    · refine .inr ⟨m, by rw [hn]; exact h1, h2, ?_⟩
      by_cases ck : Wi M i k
      · rw [if_pos ck]
        by_cases cm : Wi M i m
        · rw [if_pos cm]; omega
        · rw [if_neg cm]; omega
      · rw [if_neg ck, if_neg (fun cm => ck (.up h2 cm))]
        exact h3
  · refine .inr ⟨up, by rw [hn]; exact hu, e, ?_⟩
    rw [if_pos hwk, if_neg hw]
    omega
theorem parI_setP {M : Dm} {L : Nat → Lk} {k : Nat} (h : (L k).up = (M.pl k).up) : parI (M.setP L) k = parI M k := by
  unfold parI
  simp only [Dm.setP, h]
theorem parI_set {M : Dm} {L : Nat → Lk} {k up : Nat} (h : (L k).up = (up : Int)) : parI (M.setP L) k = (up : Int) := by
  unfold parI
  simp only [Dm.setP, h]
  rw [if_neg (by omega)]
theorem puts_up (up : Nat) (bef : Int) : ∀ (l : List Nat) (L : Nat → Lk) (k : Nat), (k ∉ l → (putsL L up bef l k).up = (L k).up) ∧ (k ∈ l → (putsL L up bef l k).up = (up : Int))
  | [], L, k => ⟨fun _ => rfl, fun h => by cases h⟩
  | x :: r, L, k => by
    obtain ⟨h1, h2⟩ := puts_up up bef r (putL L up x bef) k
    refine ⟨fun h => ?_, fun h => ?_⟩
    · have hx : k ≠ x := fun e => h (e ▸ List.mem_cons_self ..)
      exact (h1 fun hm => h (List.mem_cons_of_mem _ hm)).trans (put_up hx)
    · by_cases hm : k ∈ r
      · exact h2 hm
      · rcases List.mem_cons.1 h with rfl | h
        · exact (h1 hm).trans put_up_same
        · exact absurd h hm
theorem Good.ins {M : Dm} {R : Nat → List Nat} {rk : Nat → Nat} (h : Good M R rk) {up i : Nat} {bef : Int} (hu : up < M.n) (hi : i < M.n) (hF : Fits M up i bef) : ∃ rk', Good (M.setP (putD M R up i bef)) (putDR M R up i bef) rk' := by
  have hP := PutOk.of h.wf h.acy hu hi hF.2.2.1 hF.2.2.2
  refine ⟨_, hP.out, Acy.move (M := M) (i := i) h.acy rfl hu hF.2.2.1 (fun k hk => ?_), h.few⟩
  unfold putD
  by_cases c : (M.nd i).kind = 4
  · rw [if_pos c]
    obtain ⟨h1, h2⟩ := puts_up up bef (R i) M.pl k
    by_cases hm : k ∈ R i
    · refine .inr ⟨.up ?_ .here, parI_set (h2 hm)⟩
      have hup := h.wf.up hi hm
      unfold parI
      rw [if_neg (by omega)]
      exact hup
    · exact .inl (parI_setP (h1 hm))
  · rw [if_neg c]
    by_cases hk' : k = i
    · subst hk'
      exact .inr ⟨.here, parI_set put_up_same⟩
    · exact .inl (parI_setP (put_up hk'))
end Go.Proofs.YtbhfnbplbkncmaaGreat
