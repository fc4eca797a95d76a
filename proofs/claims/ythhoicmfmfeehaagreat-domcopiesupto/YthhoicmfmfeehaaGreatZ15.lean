/-
  Doc.Node of a document, and Doc.Copy.
  Attributes by name: named, slices.IndexFunc over attributes, Doc.element.
  withAttribute.
  Doc.Set.
-/
import Derived.Test.YthhoicmfmfeehaaGreatZ14
import Derived.Test.YthhoicmfmfeehaaGreatZ10
import Derived.Laws.MakeOwn
import Derived.Laws.CopyRow
namespace Go.Proofs.YthhoicmfmfeehaaGreat
open Go.RowKit
set_option linter.unusedVariables false

/-- No node has more attributes than may be. -/
def Few (S : Dm) : Prop := ∀ i, i < S.n → (S.nd i).attrs.length ≤ 1000
theorem node_any (K : Nat → Prop) (p i : Nat) (S : Dm) (R : Nat → List Nat) (w : World) (h : DX K w p S) (hW : WF S.n S.pl R) (hi : i < S.n) (hn : S.n ≤ 1000000) (hf : Few S) :
    Calls Tryz.prog 18 #[.pointer (some ⟨p, 0, none⟩), .int .i64 (i : Int)] w fun e w' => Told w (S.nd i) (S.pl i).up (R i) e w' := by
  obtain ⟨ga, cap, hY⟩ := h
  obtain ⟨g, rfl, -, -, hgl⟩ := hY.at (by omega)
  obtain ⟨aa, ac, hc, hO⟩ := hY.cell hi
  exact node_go p g S.n cap i w hY.c1 hY.plt hgl hi hn (S.nd i).kind ⟨(S.nd i).name.toArray⟩ ⟨(S.nd i).data.toArray⟩ aa _ ac _ _ _ _ (S.nd i).fl (S.nd i).attrs (R i) (hc 0 _ rfl) (hc 1 _ rfl) (hc 2 _ rfl) (hc 3 _ rfl) (hc 4 _ rfl) (hc 5 _ rfl) (hc 6 _ rfl) (hc 7 _ rfl) (hc 8 _ rfl) (hc 9 _ rfl) (hc 10 _ rfl) (hc 11 _ rfl) (hc 12 _ rfl)
    (fun X hX => copyA_any (S.nd i).attrs aa _ ac rfl (by have := hf i hi; omega) X ((hO.atsAt (K' := fun k => k < w.heap.size) fun g hg => (OwnZ.out hO hg).2).kept hX fun k h => Nat.lt_of_lt_of_le h hX.size))
    (fun X hX => rowP K p g cap i S R X (hY.kept hX) hW hi (by omega))

section
variable {P : Program}
/-- copy of a whole row of elements of z cells each. -/
theorem run_copyZ (w : World) (t elem : TypeId) (ty : TypeId) (i : TypeInfo) (z g n dCap sCap : Nat) (a : Addr) (cur : Array Value) (cs : List Value)
    (hu : P.underlying t = some (.slice elem)) (hi : P.info? elem = some i) (hz : i.size = z)
    (hg : w.heap[g]? = some (.cells cur elem (0, 0))) (hn : cs.length = n * z) (hcur : cur.size = n * z)
    (hsrc : ∀ j v, cs[j]? = some v → w.cell? (a.add j) = some v) (h1 : ∀ v ∈ cs, v.oneCell' = true) :
    (Builtin.copy_ #[t, t] ty #[.slice (some ⟨g, 0, none⟩) n dCap, .slice (some a) n sCap]).run P w = .ok (goInt n) (w.setRow g cs.toArray) := by
  subst hz
  have hl := run_loadCells_list (P := P) w a cs hsrc
  have hst := run_storeCells_at P g 0 elem cs 0 cur w hg (by omega) h1
  simp only [Nat.zero_add, List.take_zero, List.nil_append, List.drop_eq_nil_of_le (show cur.toList.length ≤ cs.length by simp; omega), List.append_nil] at hst
  rw [hn] at hl
  simp [Builtin.copy_, run_underlying hu, Builtin.lenOf, Builtin.firstCells, sizeOf, typeInfo, hi, hl, hst]
end
/-- A copy under way: at G the nodes' cells; of the first j nodes the attributes are copied. -/
def Cpy (S : Dm) (w : World) (G j : Nat) (wr : World) : Prop :=
  ∃ (cur : Array Value) (aa : Nat → Option Addr) (ac : Nat → Nat), wr.heap[G]? = some (.cells cur 80 (0, 0)) ∧ cur.size = S.n * 22 ∧
    (∀ i, i < S.n → ∀ f u, (S.cells i (aa i) (ac i))[f]? = some u → cur.toList[i * 22 + f]? = some u) ∧
    (∀ i, i < j → OwnZ (fun k => k < w.heap.size ∨ k = G) wr 67 2 (aa i) (S.nd i).attrs.length (ac i) (atrCells (S.nd i).attrs)) ∧
    (∀ i k, i < j → k < j → i ≠ k → ∀ g, blkOf (aa i) g → ¬ blkOf (aa k) g) ∧
    (∀ i, j ≤ i → i < S.n → AtsAt (fun k => k < w.heap.size) wr (aa i) (S.nd i).attrs) ∧ Kept (fun k => k < w.heap.size) w wr
theorem Cpy.next {S : Dm} {w : World} {j : Nat} {wr : World} (h : Cpy S w w.heap.size j wr) (hj : j < S.n) :
    ∃ aa ac, wr.cell? ⟨w.heap.size, j * 22 + 3, none⟩ = some (.slice aa (S.nd j).attrs.length ac) ∧ AtsAt (fun k => k < wr.heap.size) wr aa (S.nd j).attrs ∧ w.heap.size < wr.heap.size ∧
      ∀ ao c w2, OwnZ (fun k => k < wr.heap.size) w2 67 2 ao (S.nd j).attrs.length c (atrCells (S.nd j).attrs) → Kept (fun k => k < wr.heap.size) wr w2 → (∃ u, w2.cell? ⟨w.heap.size, j * 22 + 3, none⟩ = some u) ∧ w2.frozen? ⟨w.heap.size, j * 22 + 3, none⟩ = false ∧ Cpy S w w.heap.size (j + 1) (w2.setCell ⟨w.heap.size, j * 22 + 3, none⟩ (.slice ao (S.nd j).attrs.length c)) := by
  obtain ⟨cur, aa, ac, hb, hs, hx, hO, hD, hA, hK⟩ := h
  have hG := lt_block hb
  have h22 : j * 22 + 22 ≤ S.n * 22 := by have := Nat.mul_le_mul_right 22 hj; omega
  refine ⟨aa j, ac j, ?_, (hA j (Nat.le_refl _) hj).kept (Kept.refl _ wr) (fun k h => Nat.lt_of_lt_of_le h hK.size), hG, fun ao c w2 hO2 hK2 => ?_⟩
  · rw [cell_block hb, ← Array.getElem?_toList]
    exact hx j hj 3 _ rfl
  · have hb2 : w2.heap[w.heap.size]? = some (.cells cur 80 (0, 0)) := by rw [hK2.block _ hG]; exact hb
    have hc2 : w2.cell? ⟨w.heap.size, j * 22 + 3, none⟩ = some (.slice (aa j) (S.nd j).attrs.length (ac j)) := by
      rw [cell_block hb2, ← Array.getElem?_toList]
      exact hx j hj 3 _ rfl
    refine ⟨⟨_, hc2⟩, frozen_block hb2 _, cur.setIfInBounds (j * 22 + 3) (.slice ao (S.nd j).attrs.length c), fun k => if k = j then ao else aa k, fun k => if k = j then c else ac k, heap_setCell_at hb2 _ _, by simp [hs], ?_, ?_, ?_, ?_, ?_⟩
    · intro i hi f u hu
      dsimp only at hu
      rw [Array.toList_setIfInBounds]
      have hf' : f < 22 := by
        rcases Nat.lt_or_ge f 22 with hh | hh
        · exact hh
        · rw [List.getElem?_eq_none (by rw [Dm.cells_len]; exact hh)] at hu; cases hu
      by_cases ci : i = j
      · subst ci
        rw [if_pos rfl, if_pos rfl] at hu
        by_cases cf : f = 3
        · subst cf
          rw [List.getElem?_set_self (by simp; omega)]
          exact hu
        · rw [List.getElem?_set_ne (by omega)]
          refine hx i hi f u ?_
          rw [← hu]
          unfold Dm.cells ndCells
          match f, cf, hf' with
          | 0, _, _ => rfl
          | 1, _, _ => rfl
          | 2, _, _ => rfl
          | 4, _, _ => rfl
          | 5, _, _ => rfl
          | 6, _, _ => rfl
          | 7, _, _ => rfl
          | 8, _, _ => rfl
          | 9, _, _ => rfl
          | 10, _, _ => rfl
          | 11, _, _ => rfl
          | 12, _, _ => rfl
          | 13, _, _ => rfl
          | 14, _, _ => rfl
          | 15, _, _ => rfl
          | 16, _, _ => rfl
          | 17, _, _ => rfl
          | 18, _, _ => rfl
          | 19, _, _ => rfl
          | 20, _, _ => rfl
          | 21, _, _ => rfl
      · rw [if_neg ci, if_neg ci] at hu
        rw [List.getElem?_set_ne (by omega)]
        exact hx i hi f u hu
    · intro i hi
      dsimp only
      have keep : ∀ g, g ≠ w.heap.size → (w2.setCell ⟨w.heap.size, j * 22 + 3, none⟩ (.slice ao (S.nd j).attrs.length c)).heap[g]? = w2.heap[g]? := fun g hg => Below.heap_setCell _ _ _ _ hg
      by_cases ci : i = j
      · subst ci
        rw [if_pos rfl, if_pos rfl]
        have hout := fun g (hg : blkOf ao g) => OwnZ.out hO2 hg
        refine OwnZ.to hO2 (fun g hg hh => ?_) (fun g hg => keep g (fun e => (hout g hg).1 (by rw [e]; exact hG)))
        rcases hh with hh | hh
        · exact (hout g hg).1 (Nat.lt_of_lt_of_le hh hK.size)
        · exact (hout g hg).1 (by rw [hh]; exact hG)
      · rw [if_neg ci, if_neg ci]
        have hio := hO i (by omega)
        have hout := fun g (hg : blkOf (aa i) g) => OwnZ.out hio hg
        refine OwnZ.to hio (fun g hg => (hout g hg).1) (fun g hg => ?_)
        rw [keep g (fun e => (hout g hg).1 (.inr e)), hK2.block g (hout g hg).2]
    · intro i k hi hk hik g hg hh
      dsimp only at hg hh
      by_cases ci : i = j
      · subst ci
        rw [if_pos rfl] at hg
        rw [if_neg (by omega)] at hh
        exact (OwnZ.out hO2 hg).1 (OwnZ.out (hO k (by omega)) hh).2
      · rw [if_neg ci] at hg
        by_cases ck : k = j
        · subst ck
          rw [if_pos rfl] at hh
          exact (OwnZ.out hO2 hh).1 (OwnZ.out (hO i (by omega)) hg).2
        · rw [if_neg ck] at hh
          exact hD i k (by omega) (by omega) hik g hg hh
    · intro i hi1 hi2
      dsimp only
      rw [if_neg (by omega)]
      have k1 : Kept (fun k => k < w.heap.size) wr (w2.setCell ⟨w.heap.size, j * 22 + 3, none⟩ (.slice ao (S.nd j).attrs.length c)) := (hK2.mono fun k h => Nat.lt_of_lt_of_le h hK.size).setCell (p := ⟨w.heap.size, j * 22 + 3, none⟩) (Nat.lt_irrefl _) _
      exact (hA i (by omega) hi2).kept k1 fun _ h => h
    · exact (hK.trans (hK2.mono fun k h => Nat.lt_of_lt_of_le h hK.size)).setCell (p := ⟨w.heap.size, j * 22 + 3, none⟩) (Nat.lt_irrefl _) _
/-- All attributes are copied: a document of its own. -/
theorem Cpy.done {S : Dm} {w wr : World} (h : Cpy S w w.heap.size S.n wr) (hn : S.n ≤ maxLen) : DX (fun k => k < w.heap.size) (wr.alloc (.cells #[.int .i64 (S.limit : Int), .slice (some ⟨w.heap.size, 0, none⟩) S.n S.n] 74)) wr.heap.size S ∧ Kept (fun k => k < w.heap.size) w (wr.alloc (.cells #[.int .i64 (S.limit : Int), .slice (some ⟨w.heap.size, 0, none⟩) S.n S.n] 74)) ∧ w.heap.size ≤ wr.heap.size := by
  obtain ⟨cur, aa, ac, hb, hs, hx, hO, hD, hA, hK⟩ := h
  have hG := lt_block hb
  have hle := hK.size
  refine ⟨⟨_, _, fun k hk => ?_, fun hh => ?_, heap_alloc_new wr _, cur.toList, aa, ac, ⟨by simp [hs], Nat.le_refl _, hn, .inr ⟨w.heap.size, cur, rfl, ?_, heap_alloc_past hb _, hs, ?_⟩⟩, hx, fun i hi => ?_, fun i k hi hk => hD i k hi hk⟩, hK.alloc (fun k hk => Nat.lt_of_lt_of_le hk hle) _, hle⟩
  · have : k < w.heap.size := hk
    simp; omega
  · have : wr.heap.size < w.heap.size := hh
    omega
  · rintro (hh | hh)
    · have : w.heap.size < w.heap.size := hh
      omega
    · omega
  · rw [← hs]; exact List.take_of_length_le (by simp)
  · have hio := hO i hi
    refine OwnZ.to hio (fun g hg hh => ?_) (fun g hg => Below.heap_alloc _ _ _ (OwnZ.out hio hg).2)
    rcases hh with hh | hh | hh
    · exact (OwnZ.out hio hg).1 (.inl hh)
    · have := (OwnZ.out hio hg).2
      omega
    · injection hh with hh
      injection hh with hh
      exact (OwnZ.out hio hg).1 (.inr hh.symm)

set_option maxRecDepth 20000 in
/-- The beginning of a copy. -/
theorem Cpy.start {K : Nat → Prop} {S : Dm} {w : World} {p g cap : Nat} (h : DY K w p S (some ⟨g, 0, none⟩) cap) (mc : Array Value) (hmc : mc.size = S.n * 22) :
    ∃ cs : List Value, (Builtin.copy_ #[72, 72] 3 #[.slice (some ⟨w.heap.size, 0, none⟩) S.n S.n, .slice (some ⟨g, 0, none⟩) S.n cap]).run Tryz.prog (w.alloc (.cells mc 80)) = .ok (goInt S.n) ((w.alloc (.cells mc 80)).setRow w.heap.size cs.toArray) ∧ Cpy S w w.heap.size 0 ((w.alloc (.cells mc 80)).setRow w.heap.size cs.toArray) := by
  obtain ⟨gk, gp, gl⟩ := h.gk
  obtain ⟨h1, h2, h3, xs, aa, ac, ho, hx, hat, hs⟩ := h
  obtain ⟨inf, hi, hip⟩ := Option.map_eq_some_iff.1 infoN
  have hsz : inf.size = 22 := congrArg (·.2.1) hip
  have hlx : xs.length = S.n * 22 := ho.1
  have kA : Kept (fun k => k < w.heap.size) w (w.alloc (.cells mc 80)) := (Kept.refl _ w).alloc (fun _ h => h) _
  have hone : ∀ v ∈ xs, v.oneCell' = true := by
    intro v hv
    obtain ⟨j, hj, e⟩ := List.mem_iff_getElem.1 hv
    have hjn : j / 22 < S.n := by
      rw [hlx] at hj
      omega
    have hl : j % 22 < (S.cells (j / 22) (aa (j / 22)) (ac (j / 22))).length := by rw [Dm.cells_len]; omega
    have := hx (j / 22) hjn (j % 22) _ (List.getElem?_eq_getElem hl)
    rw [show j / 22 * 22 + j % 22 = j from by omega, List.getElem?_eq_getElem hj, e] at this
    injection this with this
    rw [this]
    exact nd_one _ _ _ _ _ _ (List.getElem_mem hl)
  refine ⟨xs, ?_, ?_⟩
  · refine run_copyZ (P := Tryz.prog) _ 72 80 3 inf 22 w.heap.size S.n S.n cap ⟨g, 0, none⟩ mc xs Tryz.underlying72 hi hsz (heap_alloc_new w _) hlx hmc (fun j v hj => ?_) hone
    obtain ⟨g', e, hc⟩ := ho.cell hj
    injection e with e
    injection e with e
    subst e
    rw [Addr.add_lit, Nat.zero_add, kA.cell (p := ⟨g, j, none⟩) gl]
    exact hc
  · refine ⟨xs.toArray, aa, ac, setRow_heap _ _ _ _ _ _ (heap_alloc_new w _), by simp [hlx], fun i hi f u hu => by simpa using hx i hi f u hu, fun i hi => absurd hi (Nat.not_lt_zero _), fun i k hi => absurd hi (Nat.not_lt_zero _), fun i _ hi => ?_, kept_setRow kA (Nat.lt_irrefl _) _⟩
    have hio := hat i hi
    have := hio.atsAt (K' := fun k => k < w.heap.size) fun g hg => (OwnZ.out hio hg).2
    exact this.kept (kept_setRow kA (Nat.lt_irrefl _) _) fun _ h => h

set_option maxRecDepth 20000 in
set_option maxHeartbeats 1000000 in
theorem copy_any (K : Nat → Prop) (p : Nat) (S : Dm) (w : World) (h : DX K w p S) (h0 : 0 < S.n) (hn : S.n ≤ 1000000) (hf : Few S) :
    Calls Tryz.prog 14 #[.pointer (some ⟨p, 0, none⟩)] w fun e w' => ∃ p', e = .returned (.pointer (some ⟨p', 0, none⟩)) ∧ w.heap.size ≤ p' ∧ DX (fun k => k < w.heap.size) w' p' S ∧ Kept (fun k => k < w.heap.size) w w' := by
  obtain ⟨ga, cap, hY⟩ := h
  obtain ⟨g, rfl, gk, gp, gl⟩ := hY.at h0
  obtain ⟨inf, hi, hip⟩ := Option.map_eq_some_iff.1 infoN
  have hz0 : inf.zero = _ := congrArg (·.1) hip
  have hsz : inf.size = 22 := congrArg (·.2.1) hip
  have hby : inf.bytes = 176 := congrArg (·.2.2) hip
  have hmk := run_make (P := Tryz.prog) w 72 80 inf _ Tryz.underlying72 hi hz0 .i64 .i64 (S.n : Int) (S.n : Int) (by omega) (Int.le_refl _) (by rw [hby]; omega) (by omega)
  obtain ⟨mc, hmc⟩ : ∃ mc : Array Value, madeCells (Value.cells (.agg zeroN)) ((S.n : Int).toNat * inf.size) = mc := ⟨_, rfl⟩
  have hmk' : (Instr.makeSlice 72 (.int .i64 (S.n : Int)) (.int .i64 (S.n : Int))).run Tryz.prog w = .ok (.slice (some ⟨w.heap.size, 0, none⟩) S.n S.n) (w.alloc (.cells mc 80)) := by
    rw [hmk, ← hmc]; simp
  have hms : mc.size = S.n * 22 := by rw [← hmc, size_madeCells, hsz, Int.toNat_natCast]
  obtain ⟨cs, hcp, hC⟩ := Cpy.start hY mc hms
  have c0 := hY.c0
  have c1 := hY.c1
  have hpl := hY.plt
  obtain ⟨V, hV⟩ : ∃ V, (w.alloc (.cells mc 80)).setRow w.heap.size cs.toArray = V := ⟨_, rfl⟩
  rw [hV] at hcp hC
  have HC : Hid (Cpy S w w.heap.size 0 V) := hC
  have HF : Hid (Few S) := hf
  obtain ⟨n, hne⟩ : ∃ n, S.n = n := ⟨_, rfl⟩
  have HNE : Hid (S.n = n) := hne
  rw [hne] at hmk' hcp c1 hn h0
  have c1' : (w.alloc (.cells mc 80)).cell? ⟨p, 1, none⟩ = some (.slice (some ⟨g, 0, none⟩) n cap) := by
    rw [Kept.cell ((Kept.refl (fun k => k < w.heap.size) w).alloc (fun _ h => h) _) (p := ⟨p, 1, none⟩) hpl]; exact c1
  clear hY hip hz0 hsz hby hmk hmc hms hC hV hf hne hi
  go_enter Tryz.func14, Tryz.ntmps14
  go_upto_region 4 with fail
  go_loopg [19] n (fun gh v wr => ∃ j : Nat, gh = n - j ∧ j ≤ n ∧ v = .int .i64 (j : Int) ∧ Cpy S w w.heap.size j wr)
  case atStart => exact ⟨0, rfl, Nat.zero_le _, rfl, HC.out⟩
  case round =>
    clear HC hcp hmk'
    obtain ⟨j, hgj, hj, rfl, hC⟩ := hrel
    by_cases hlt : j < n
    · obtain ⟨aa, ac, d3, hA, hG, hnext⟩ := hC.next (by rw [HNE.out]; exact hlt)
      have rc := copyA_any (S.nd j).attrs aa _ ac rfl (by have := HF.out j (by rw [HNE.out]; exact hlt); omega) wr hA
      obtain ⟨m, hm⟩ : ∃ m, (S.nd j).attrs.length = m := ⟨_, rfl⟩
      rw [hm] at d3 rc hnext
      have HNX : Hid (∀ ao c w2, OwnZ (fun k => k < wr.heap.size) w2 67 2 ao m c (atrCells (S.nd j).attrs) → Kept (fun k => k < wr.heap.size) wr w2 → (∃ u, w2.cell? ⟨w.heap.size, j * 22 + 3, none⟩ = some u) ∧ w2.frozen? ⟨w.heap.size, j * 22 + 3, none⟩ = false ∧ Cpy S w w.heap.size (j + 1) (w2.setCell ⟨w.heap.size, j * 22 + 3, none⟩ (.slice ao m c))) := hnext
      clear hnext hC hA hm
      go_wp2_with fail
      refine rc.mono ?_
      rintro e w2 ⟨ao, c, rfl, hO2, hK2⟩
      obtain ⟨⟨u, d4⟩, f4, hC2⟩ := HNX.out ao c w2 hO2 hK2
      have HC2 : Hid (Cpy S w w.heap.size (j + 1) (w2.setCell ⟨w.heap.size, j * 22 + 3, none⟩ (.slice ao m c))) := hC2
      clear rc hC2 hO2 hK2 HNX d3
      go_wp2
      go_roundg (n - (j + 1))
      case rel => exact ⟨j + 1, rfl, by omega, by go_num, HC2.out⟩
      case measure => omega
    · have hjn : j = n := by omega
      subst hjn
      have hC' : Cpy S w w.heap.size S.n wr := by rw [HNE.out]; exact hC
      have hd := hC'.done (by rw [HNE.out]; unfold maxLen; omega)
      obtain ⟨hD, hDK, hle⟩ := hd
      have hKr : Kept (fun k => k < w.heap.size) w wr := by obtain ⟨_, _, _, _, _, _, _, _, _, h⟩ := hC; exact h
      have c0r : wr.cell? ⟨p, 0, none⟩ = some (.int .i64 (S.limit : Int)) := (hKr.cell (p := ⟨p, 0, none⟩) hpl).trans c0
      rw [HNE.out] at hD hDK
      have HD : Hid (DX (fun k => k < w.heap.size) (wr.alloc (.cells #[.int .i64 (S.limit : Int), .slice (some ⟨w.heap.size, 0, none⟩) j j] 74)) wr.heap.size S) := hD
      have HDK : Hid (Kept (fun k => k < w.heap.size) w (wr.alloc (.cells #[.int .i64 (S.limit : Int), .slice (some ⟨w.heap.size, 0, none⟩) j j] 74))) := hDK
      clear hC hC' hD hDK hKr c0 c1 c1'
      go_wp2
      go_ret
      exact ⟨wr.heap.size, rfl, hle, HD.out, HDK.out⟩
end Go.Proofs.YthhoicmfmfeehaaGreat

namespace Go.Proofs.YthhoicmfmfeehaaGreat
open Go.RowKit
set_option linter.unusedVariables false

theorem enter99 (args : Array Value) (X : World) : (callFunc 99 args).run Tryz.prog X = .ok (.enter 99 args) X := entersE Tryz.func99 (by kernel_rfl) (c := _) rfl args X

set_option maxRecDepth 20000 in
theorem named_any (s : ByteArray) (w : World) :
    Calls Tryz.prog 72 #[.string s] w fun e w' => e = .returned (.func (.func 99) #[] #[.pointer (some ⟨w.heap.size, 0, none⟩)]) ∧ w' = w.alloc (.cells #[.string s] 9) := by
  go_enter Tryz.func72, Tryz.ntmps72
  go_wp2
  go_ret
  exact ⟨rfl, rfl⟩
set_option maxRecDepth 20000 in
theorem named1_any (a v s : ByteArray) (b : Nat) (w : World) (hb : w.cell? ⟨b, 0, none⟩ = some (.string s)) :
    Calls Tryz.prog 99 #[.agg #[.string a, .string v], .pointer (some ⟨b, 0, none⟩)] w fun e w' => e = .returned (.bool (a.toList == s.toList)) ∧ Kept (fun k => k < w.heap.size) w w' := by
  obtain ⟨W, hW⟩ : ∃ W, w.alloc (.cells #[.string a, .string v] 67) = W := ⟨_, rfl⟩
  have kW : Kept (fun k => k < w.heap.size) w W := by rw [← hW]; exact (Kept.refl _ w).alloc (fun _ h => h) _
  have hbl : b < w.heap.size := World.block_lt_of_cell? w _ hb
  have hbW : W.cell? ⟨b, 0, none⟩ = some (.string s) := (kW.cell (p := ⟨b, 0, none⟩) hbl).trans hb
  have h0 : W.cell? ⟨w.heap.size, 0, none⟩ = some (.string a) := by rw [← hW, cell_block (heap_alloc_new w _)]; rfl
  obtain ⟨q, hq⟩ : ∃ q, (a.toList == s.toList) = q := ⟨_, rfl⟩
  rw [hq]
  have HW : Hid (w.alloc (.cells #[.string a, .string v] 67) = W) := hW
  have HK : Hid (Kept (fun k => k < w.heap.size) w W) := kW
  obtain ⟨N, hN⟩ : ∃ N, w.heap.size = N := ⟨_, rfl⟩
  rw [hN] at h0
  have HN : Hid (w.heap.size = N) := hN
  clear hW kW hb hbl hN
  cases q
  all_goals
    go_enter Tryz.func99, Tryz.ntmps99
    go_upto_region 1 with fail
    rw [HW.out, HN.out]
    go_wp2
    go_ret
    exact ⟨rfl, HK.out⟩

set_option maxRecDepth 20000 in
set_option maxHeartbeats 1000000 in
theorem indexA_any (l : List Atr) (n : Nat) (hln : l.length = n) (hn : n ≤ 1000000) (a : Option Addr) (cap b : Nat) (s : ByteArray) (w : World) (hr : AtsAt (fun k => k < w.heap.size) w a l) (hb : w.cell? ⟨b, 0, none⟩ = some (.string s)) :
    Calls Tryz.prog 71 #[.slice a n cap, .func (.func 99) #[] #[.pointer (some ⟨b, 0, none⟩)]] w fun e w' => ((∃ k, ∃ h : k < l.length, e = .returned (.int .i64 (k : Int)) ∧ l[k].name = s.toList ∧ ∀ x ∈ l.take k, x.name ≠ s.toList) ∨ (e = .returned (.int .i64 (-1)) ∧ ∀ x ∈ l, x.name ≠ s.toList)) ∧ Kept (fun k => k < w.heap.size) w w' := by
  have he := enter99
  have hbl : b < w.heap.size := World.block_lt_of_cell? w _ hb
  have HR : Hid (AtsAt (fun k => k < w.heap.size) w a l) := hr
  have HL : Hid (l.length = n) := hln
  have HB : Hid (w.cell? ⟨b, 0, none⟩ = some (.string s)) := hb
  have HBL : Hid (b < w.heap.size) := hbl
  clear hr hln hb hbl
  go_enter Tryz.func71, Tryz.ntmps71
  go_upto_region 2 with fail
  go_loopg [8] n (fun gh v wr => ∃ j : Nat, gh = n - j ∧ j ≤ n ∧ v = .int .i64 (j : Int) ∧ (∀ x ∈ l.take j, x.name ≠ s.toList) ∧ Kept (fun k => k < w.heap.size) w wr)
  case atStart => exact ⟨0, rfl, Nat.zero_le _, rfl, fun x hx => by simp at hx, Kept.refl _ _⟩
  case round =>
    obtain ⟨j, hgj, hj, rfl, hno, hK⟩ := hrel
    by_cases hlt : j < n
    · have hl : j < l.length := by rw [HL.out]; exact hlt
      obtain ⟨g, o, rfl, hg, c0, c1⟩ := HR.out j hl
      have d0 : wr.cell? ⟨g, o + j * 2, none⟩ = some (sv l[j].name) := (hK.cell (p := ⟨g, o + j * 2, none⟩) hg).trans c0
      have d1 : wr.cell? ⟨g, o + j * 2 + 1, none⟩ = some (sv l[j].value) := (hK.cell (p := ⟨g, o + j * 2 + 1, none⟩) hg).trans c1
      have r := named1_any ⟨l[j].name.toArray⟩ ⟨l[j].value.toArray⟩ s b wr ((hK.cell (p := ⟨b, 0, none⟩) HBL.out).trans HB.out)
      have HJ : Hid (l.take (j + 1) = l.take j ++ [l[j]]) := by rw [List.take_add_one, List.getElem?_eq_getElem hl]; rfl
      have HNO : Hid (∀ x ∈ l.take j, x.name ≠ s.toList) := hno
      have HK : Hid (Kept (fun k => k < w.heap.size) w wr) := hK
      rw [ByteArray.toList_eq] at r
      obtain ⟨q, hq⟩ : ∃ q, (l[j].name.toArray.toList == s.toList) = q := ⟨_, rfl⟩
      have hq' : (l[j].name == s.toList) = q := hq
      have HRR : Hid (Calls Tryz.prog 99 #[.agg #[.string ⟨l[j].name.toArray⟩, .string ⟨l[j].value.toArray⟩], .pointer (some ⟨b, 0, none⟩)] wr fun e w' => e = .returned (.bool q) ∧ Kept (fun k => k < wr.heap.size) wr w') := by rw [← hq]; exact r
      have HQ : Hid ((l[j].name == s.toList) = q) := hq'
      clear c0 c1 r hno hK hq hq'
      unfold sv at d0 d1
      go_wp2_with fail
      refine HRR.out.mono ?_
      rintro e w2 ⟨rfl, hk2⟩
      have HK2 : Hid (Kept (fun k => k < w.heap.size) w w2) := HK.out.trans (hk2.mono fun k h => Nat.lt_of_lt_of_le h HK.out.size)
      clear HRR d0 d1 hk2 he
      cases q with
      | true =>
        go_wp2
        go_ret
        exact ⟨.inl ⟨j, hl, rfl, by simpa using HQ.out, HNO.out⟩, HK2.out⟩
      | false =>
        go_wp2
        go_roundg (n - (j + 1))
        case rel =>
          refine ⟨j + 1, rfl, by omega, by go_num, fun x hx => ?_, HK2.out⟩
          rw [HJ.out] at hx
          rcases List.mem_append.1 hx with h | h
          · exact HNO.out x h
          · rw [List.mem_singleton.1 h]; simpa using HQ.out
        case measure => omega
    · have hjn : n = j := by omega
      subst hjn
      have HNO : Hid (∀ x ∈ l, x.name ≠ s.toList) := fun x hx => hno x (by rw [List.take_of_length_le (by rw [HL.out]; exact Nat.le_refl _)]; exact hx)
      have HK : Hid (Kept (fun k => k < w.heap.size) w wr) := hK
      clear hno hK he
      go_wp2
      go_ret
      exact ⟨.inr ⟨rfl, HNO.out⟩, HK.out⟩

set_option maxRecDepth 20000 in
/-- Doc.element of an element that is there. -/
theorem element_yes (p g n cap i : Nat) (z : Int) (w : World) (hc : w.cell? ⟨p, 1, none⟩ = some (.slice (some ⟨g, 0, none⟩) n cap)) (hi : i < n) (hn : n ≤ 1000000000) (h0 : w.cell? ⟨g, i * 22, none⟩ = some (.int .u8 1)) :
    Calls Tryz.prog 68 #[.pointer (some ⟨p, 0, none⟩), .int .i64 (i : Int), .int .u16 z] w fun e w' => e = .returned (.tuple #[.pointer (some ⟨g, i * 22, none⟩), .int .u16 0]) ∧ w' = w := by
  have r := at_yes p g n cap i w hc hi hn
  clear hc
  go_enter Tryz.func68, Tryz.ntmps68
  go_wp2_with (go_at_call 57; refine r.mono ?_; rintro e w2 ⟨rfl, hw2⟩; replace hw2 := hw2.symm; subst hw2)
  go_ret2
  exact ⟨rfl, rfl⟩
end Go.Proofs.YthhoicmfmfeehaaGreat

namespace Go.Proofs.YthhoicmfmfeehaaGreat
open Go.RowKit
set_option linter.unusedVariables false

/-- The same attributes with a: in the place of the one of its name, or behind all. -/
def setA (l : List Atr) (a : Atr) : List Atr := match l with
  | [] => [a]
  | x :: r => if x.name = a.name then a :: r else x :: setA r a
theorem setA_at : ∀ (l : List Atr) (a : Atr) (k : Nat) (h : k < l.length), l[k].name = a.name → (∀ x ∈ l.take k, x.name ≠ a.name) → setA l a = l.set k a
  | x :: r, a, 0, h, he, hn => by
    show (if x.name = a.name then a :: r else x :: setA r a) = _
    rw [if_pos (show x.name = a.name from he)]; rfl
  | x :: r, a, k + 1, h, he, hn => by
    show (if x.name = a.name then a :: r else x :: setA r a) = _
    rw [if_neg (hn x (by simp)), setA_at r a k (by simpa using h) he (fun y hy => hn y (by simp [hy]))]
    rfl
theorem setA_no : ∀ (l : List Atr) (a : Atr), (∀ x ∈ l, x.name ≠ a.name) → setA l a = l ++ [a]
  | [], a, _ => rfl
  | x :: r, a, hn => by
    show (if x.name = a.name then a :: r else x :: setA r a) = _
    rw [if_neg (hn x (by simp)), setA_no r a (fun y hy => hn y (by simp [hy]))]
    rfl
theorem atr_set : ∀ (l : List Atr) (k : Nat) (a : Atr), k < l.length → atrCells (l.set k a) = ((atrCells l).set (k * 2) (sv a.name)).set (k * 2 + 1) (sv a.value)
  | x :: r, 0, a, _ => rfl
  | x :: r, k + 1, a, h => by
    have ih := atr_set r k a (by simpa using h)
    show [sv x.name, sv x.value] ++ atrCells (r.set k a) = _
    rw [ih]
    show _ = ((sv x.name :: sv x.value :: atrCells r).set ((k + 1) * 2) _).set ((k + 1) * 2 + 1) _
    rw [show (k + 1) * 2 = (k * 2) + 1 + 1 by omega, show k * 2 + 1 + 1 + 1 = (k * 2 + 1) + 1 + 1 by omega]
    rfl
/-- One element of a row of one's own is written. -/
theorem OwnZ.setA {K : Nat → Prop} {w : World} {g n cap : Nat} {l : List Atr} (h : OwnZ K w 67 2 (some ⟨g, 0, none⟩) n cap (atrCells l)) (k : Nat) (a : Atr) (hk : k < l.length) :
    OwnZ K ((w.setCell ⟨g, k * 2, none⟩ (sv a.name)).setCell ⟨g, k * 2 + 1, none⟩ (sv a.value)) 67 2 (some ⟨g, 0, none⟩) n cap (atrCells (l.set k a)) := by
  obtain ⟨h1, h2, h3, h4⟩ := h
  rw [atr_set l k a hk]
  refine ⟨by rw [List.length_set, List.length_set]; exact h1, h2, h3, ?_⟩
  rcases h4 with ⟨r1, _⟩ | ⟨g', cur, r1, r2, r3, r4, r5⟩
  · cases r1
  · injection r1 with r1
    injection r1 with r1
    subst r1
    refine .inr ⟨g, _, rfl, r2, heap_setCell_at (heap_setCell_at r3 _ _) _ _, by simp [r4], ?_⟩
    rw [Array.toList_setIfInBounds, Array.toList_setIfInBounds, ← r5, List.take_set, List.take_set]

theorem appA {K : Nat → Prop} {w : World} {ao : Option Addr} {n cap : Nat} {l : List Atr} (h : OwnZ K w 67 2 ao n cap (atrCells l)) (hKl : ∀ k, K k → k < w.heap.size) (hn : n ≤ 1000000) (S T : ByteArray) :
    ∃ ao' cap' w', (Builtin.append_ #[30, 30] 30 #[.slice ao n cap, .slice (some ⟨w.heap.size, 0, none⟩) 1 1]).run Tryz.prog (w.alloc (.cells #[.string S, .string T] 67)) = .ok (.slice ao' (n + 1) cap') w' ∧ OwnZ K w' 67 2 ao' (n + 1) cap' (atrCells (l ++ [⟨S.toList, T.toList⟩])) ∧ Kept K w w' := by
  obtain ⟨i, hi, hip⟩ := Option.map_eq_some_iff.1 infoA
  have hz : i.zero = _ := congrArg (·.1) hip
  have hsz : i.size = 2 := congrArg (·.2.1) hip
  have hby : i.bytes = 32 := congrArg (·.2.2) hip
  obtain ⟨W, hW⟩ : ∃ W, w.alloc (.cells #[.string S, .string T] 67) = W := ⟨_, rfl⟩
  have kW : Kept (fun k => k < w.heap.size) w W := by rw [← hW]; exact (Kept.refl _ w).alloc (fun _ h => h) _
  have hs : Src Tryz.prog 2 30 (.slice (some ⟨w.heap.size, 0, none⟩) 1 1) 1 [.string S, .string T] W := by
    rw [← hW]
    refine src_newZ w w.heap.size [.string S, .string T] _ Tryz.underlying30 (by intro u hu; rcases List.mem_cons.1 hu with rfl | hu; rfl; rw [List.mem_singleton.1 hu]; rfl) rfl rfl
  have hO : OwnZ K W 67 2 ao n cap (atrCells l) := OwnZ.to h (fun g hg => (OwnZ.out h hg).1) (fun g hg => kW.block g (OwnZ.out h hg).2)
  obtain ⟨ao', cap', w', hr, ho, hk⟩ := run_appM (P := Tryz.prog) (K := K) W 30 30 30 67 i _ Tryz.underlying30 hi hz 2 hsz rfl (by omega) hO _ 1 (by omega) (by omega) _ hs (fun k hk => Nat.lt_of_lt_of_le (hKl k hk) kW.size) (by omega)
  refine ⟨ao', cap', w', by rw [hW]; exact hr, ?_, (kW.mono hKl).trans hk⟩
  rw [atrCells_append]
  have e : atrCells [⟨S.toList, T.toList⟩] = [.string S, .string T] := by
    have hS : (⟨S.toList.toArray⟩ : ByteArray) = S := by apply ByteArray.ext; rw [ByteArray.toList_eq]
    have hT : (⟨T.toList.toArray⟩ : ByteArray) = T := by apply ByteArray.ext; rw [ByteArray.toList_eq]
    show [sv S.toList, sv T.toList] = _
    unfold sv
    rw [hS, hT]
  rw [e]
  exact ho

set_option maxRecDepth 20000 in
set_option maxHeartbeats 1000000 in
theorem withA_any (l : List Atr) (n : Nat) (hln : l.length = n) (hn : n ≤ 1000000) (aa : Option Addr) (cap : Nat) (S T : ByteArray) (w : World) (ha : AtsAt (fun k => k < w.heap.size) w aa l) :
    Calls Tryz.prog 69 #[.slice aa n cap, .agg #[.string S, .string T]] w fun e w' => ∃ ao c, e = .returned (.slice ao (setA l ⟨S.toList, T.toList⟩).length c) ∧ OwnZ (fun k => k < w.heap.size) w' 67 2 ao (setA l ⟨S.toList, T.toList⟩).length c (atrCells (setA l ⟨S.toList, T.toList⟩)) ∧ Kept (fun k => k < w.heap.size) w w' := by
  obtain ⟨V, hV⟩ : ∃ V, w.alloc (.cells #[.string S, .string T] 67) = V := ⟨_, rfl⟩
  have kV : Kept (fun k => k < w.heap.size) w V := by rw [← hV]; exact (Kept.refl _ w).alloc (fun _ h => h) _
  obtain ⟨N, hN⟩ : ∃ N, w.heap.size = N := ⟨_, rfl⟩
  have hbV : V.heap[N]? = some (.cells #[.string S, .string T] 67) := by rw [← hV, ← hN]; exact heap_alloc_new w _
  have rc := copyA_any l aa n cap hln (by omega) V (ha.kept kV fun k h => Nat.lt_of_lt_of_le h kV.size)
  have HV : Hid (w.alloc (.cells #[.string S, .string T] 67) = V) := hV
  have HKV : Hid (Kept (fun k => k < w.heap.size) w V) := kV
  have HN : Hid (w.heap.size = N) := hN
  have HBV : Hid (V.heap[N]? = some (.cells #[.string S, .string T] 67)) := hbV
  have HL : Hid (l.length = n) := hln
  clear hV kV hN hbV ha hln
  go_enter Tryz.func69, Tryz.ntmps69
  go_upto_region 1 with fail
  rw [HV.out, HN.out]
  clear HV
  go_wp2_with fail
  refine rc.mono ?_
  rintro e w1 ⟨ao, c, rfl, hO, hK1⟩
  have hb1 : w1.heap[N]? = some (.cells #[.string S, .string T] 67) := (hK1.block N (lt_block HBV.out)).trans HBV.out
  obtain ⟨W, hW⟩ : ∃ W, w1.alloc (.cells #[.string S] 9) = W := ⟨_, rfl⟩
  have kW : Kept (fun k => k < w1.heap.size) w1 W := by rw [← hW]; exact (Kept.refl _ w1).alloc (fun _ h => h) _
  obtain ⟨B, hB⟩ : ∃ B, w1.heap.size = B := ⟨_, rfl⟩
  have hsW : W.cell? ⟨B, 0, none⟩ = some (.string S) := by rw [← hW, ← hB, cell_block (heap_alloc_new w1 _)]; rfl
  have rn := named_any S w1
  have ri := indexA_any l n HL.out hn ao c B S W ((hO.atsAt (K' := fun k => k < w1.heap.size) fun g hg => (OwnZ.out hO hg).2).kept kW fun k h => Nat.lt_of_lt_of_le h kW.size) hsW
  have c0 : w1.cell? ⟨N, 0, none⟩ = some (.string S) := by rw [cell_block hb1]; rfl
  have HO : Hid (OwnZ (fun k => k < V.heap.size) w1 67 2 ao n c (atrCells l)) := hO
  have HK1 : Hid (Kept (fun k => k < w.heap.size) w w1) := HKV.out.trans (hK1.mono fun k h => Nat.lt_of_lt_of_le h HKV.out.size)
  have HKW : Hid (Kept (fun k => k < w1.heap.size) w1 W) := kW
  have HVS : Hid (V.heap.size ≤ w1.heap.size) := hK1.size
  have HB1 : Hid (w1.heap[N]? = some (.cells #[.string S, .string T] 67)) := hb1
  have HWe : Hid (w1.alloc (.cells #[.string S] 9) = W) := hW
  have HBe : Hid (w1.heap.size = B) := hB
  clear rc hO hK1 hb1 hW kW hB hsW HBV
  go_wp2_with (go_at_call 72; refine rn.mono ?_; rintro e w2 ⟨rfl, hw2⟩; replace hw2 := hw2.symm; subst hw2)
  rw [HWe.out, HBe.out]
  refine ri.mono ?_
  rintro e w2 ⟨hres, hk2⟩
  have hb2 : w2.heap[N]? = some (.cells #[.string S, .string T] 67) := ((HKW.out.trans (hk2.mono fun k h => Nat.lt_of_lt_of_le h HKW.out.size)).block N (lt_block HB1.out)).trans HB1.out
  have hO2 : OwnZ (fun k => k < V.heap.size) w2 67 2 ao n c (atrCells l) := OwnZ.to HO.out (fun g hg => (OwnZ.out HO.out hg).1) (fun g hg => (HKW.out.trans (hk2.mono fun k h => Nat.lt_of_lt_of_le h HKW.out.size)).block g (OwnZ.out HO.out hg).2)
  have hK2 : Kept (fun k => k < w.heap.size) w w2 := HK1.out.trans ((HKW.out.trans (hk2.mono fun k h => Nat.lt_of_lt_of_le h HKW.out.size)).mono fun k h => Nat.lt_of_lt_of_le h HK1.out.size)
  have hO3 : OwnZ (fun k => k < w.heap.size) w2 67 2 ao n c (atrCells l) := OwnZ.to hO2 (fun g hg hh => (OwnZ.out hO2 hg).1 (Nat.lt_of_lt_of_le hh HKV.out.size)) (fun _ _ => rfl)
  have e0 : w2.cell? ⟨N, 0, none⟩ = some (.string S) := by rw [cell_block hb2]; rfl
  have e1 : w2.cell? ⟨N, 1, none⟩ = some (.string T) := by rw [cell_block hb2]; rfl
  clear rn ri c0 hk2 HO HK1 HKW HVS HB1 HWe HBe hO2 hb2
  rcases hres with ⟨k, hk, rfl, hname, hno⟩ | ⟨rfl, hno⟩
  · have HS : Hid (setA l ⟨S.toList, T.toList⟩ = l.set k ⟨S.toList, T.toList⟩) := setA_at l _ k hk hname hno
    obtain ⟨c0, c1⟩ := atr_get l k hk
    obtain ⟨g, rfl, d0⟩ := hO3.cell c0
    obtain ⟨g', eg, d1⟩ := hO3.cell c1
    have : g' = g := by injection eg with eg; injection eg with eg; exact eg.symm
    subst this
    have hV4 := hO3.setA k ⟨S.toList, T.toList⟩ hk
    have hS : (⟨S.toList.toArray⟩ : ByteArray) = S := by apply ByteArray.ext; rw [ByteArray.toList_eq]
    have hT : (⟨T.toList.toArray⟩ : ByteArray) = T := by apply ByteArray.ext; rw [ByteArray.toList_eq]
    dsimp only [sv] at hV4
    rw [hS, hT] at hV4
    have hgk : ¬ g' < w.heap.size := (OwnZ.out hO3 (g := g') rfl).1
    have hK4 : Kept (fun k => k < w.heap.size) w ((w2.setCell ⟨g', k * 2, none⟩ (.string S)).setCell ⟨g', k * 2 + 1, none⟩ (.string T)) := (hK2.setCell (p := ⟨g', k * 2, none⟩) hgk _).setCell (p := ⟨g', k * 2 + 1, none⟩) hgk _
    have HV4 : Hid (OwnZ (fun k => k < w.heap.size) ((w2.setCell ⟨g', k * 2, none⟩ (.string S)).setCell ⟨g', k * 2 + 1, none⟩ (.string T)) 67 2 (some ⟨g', 0, none⟩) n c (atrCells (l.set k ⟨S.toList, T.toList⟩))) := hV4
    have HK4 : Hid (Kept (fun k => k < w.heap.size) w ((w2.setCell ⟨g', k * 2, none⟩ (.string S)).setCell ⟨g', k * 2 + 1, none⟩ (.string T))) := hK4
    clear hV4 hS hT hgk hK4 eg c0 c1
    unfold sv at d0 d1
    have hfz : ∀ j, w2.frozen? ⟨g', j, none⟩ = false := fun j => by
      rcases hO3.2.2.2 with ⟨r1, _⟩ | ⟨g2, cur, r1, r2, r3, r4⟩
      · cases r1
      · injection r1 with r1
        injection r1 with r1
        subst r1
        exact frozen_block r3 j
    have f0 := hfz (k * 2)
    have f1 := hfz (k * 2 + 1)
    have hkn : k < n := by rw [← HL.out]; exact hk
    clear hO3 hK2 hfz hname hno
    go_wp2
    go_ret
    refine ⟨some ⟨g', 0, none⟩, c, ?_, ?_, HK4.out⟩
    · rw [HS.out, List.length_set, HL.out]; try rfl
    · rw [HS.out, List.length_set, HL.out]; exact HV4.out
  · have HS : Hid (setA l ⟨S.toList, T.toList⟩ = l ++ [⟨S.toList, T.toList⟩]) := setA_no l _ hno
    obtain ⟨ao', c', w', hr, hO4, hK4⟩ := appA hO3 (fun k h => Nat.lt_of_lt_of_le h hK2.size) hn S T
    have HO4 : Hid (OwnZ (fun k => k < w.heap.size) w' 67 2 ao' (n + 1) c' (atrCells (l ++ [⟨S.toList, T.toList⟩]))) := hO4
    have HK4 : Hid (Kept (fun k => k < w.heap.size) w w') := hK2.trans hK4
    clear hO3 hK2 hO4 hK4 hno
    go_wp2_with (at_builtin; refine wpList_appR (w' := w') rfl (.tmp 21) (.tmp 23) 30 30 rfl _ _ (.slice ao' (n + 1) c') rfl rfl hr ?_)
    go_ret
    refine ⟨ao', c', ?_, ?_, HK4.out⟩
    · rw [HS.out, List.length_append, HL.out]; rfl
    · rw [HS.out, List.length_append, HL.out]; exact HO4.out
end Go.Proofs.YthhoicmfmfeehaaGreat

namespace Go.Proofs.YthhoicmfmfeehaaGreat
open Go.RowKit
set_option linter.unusedVariables false

/-- A node's attributes are others from now on: a row that is new. -/
theorem DY.setAttrs {K : Nat → Prop} {w0 w : World} {p : Nat} {S : Dm} {g : Nat} {cap : Nat} (h : DY K w0 p S (some ⟨g, 0, none⟩) cap) (hk : Kept (fun k => k < w0.heap.size) w0 w) {i : Nat} (hi : i < S.n) {l : List Atr} {ao : Option Addr} {n c : Nat} (hln : l.length = n) (hO : OwnZ (fun k => k < w0.heap.size) w 67 2 ao n c (atrCells l)) :
    DY K (w.setCell ⟨g, i * 22 + 3, none⟩ (.slice ao n c)) p (S.setN i { S.nd i with attrs := l }) (some ⟨g, 0, none⟩) cap ∧ Kept K w0 (w.setCell ⟨g, i * 22 + 3, none⟩ (.slice ao n c)) := by
  subst hln
  obtain ⟨gk, gp, gl⟩ := h.gk
  have kG : Kept (fun k => k ≠ g) w (w.setCell ⟨g, i * 22 + 3, none⟩ (.slice ao l.length c)) := (Kept.refl _ w).setCell (p := ⟨g, i * 22 + 3, none⟩) (fun h => h rfl) _
  obtain ⟨h1, h2, h3, xs, aa, ac, ho, hx, ha, hs⟩ := h
  have hp := lt_block h3
  have kO : Kept (fun k => k < w0.heap.size ∧ k ≠ g) w0 (w.setCell ⟨g, i * 22 + 3, none⟩ (.slice ao l.length c)) := (hk.mono fun k h => h.1).trans (kG.mono fun k h => h.2)
  refine ⟨⟨fun k hk' => Nat.lt_of_lt_of_le (h1 k hk') kO.size, h2, by rw [kO.block p ⟨hp, fun e => gp e.symm⟩]; exact h3, xs.set (i * 22 + 3) (.slice ao l.length c), fun j => if j = i then ao else aa j, fun j => if j = i then c else ac j, ?_, ?_, ?_, ?_⟩, kO.mono fun k hk' => ⟨h1 k hk', fun e => gk (e ▸ hk')⟩⟩
  · obtain ⟨o1, o2, o3, o4⟩ := ho
    refine ⟨by rw [List.length_set]; exact o1, o2, o3, ?_⟩
    rcases o4 with ⟨r1, _⟩ | ⟨g', cur, r1, r2, r3, r4, r5⟩
    · cases r1
    · injection r1 with r1
      injection r1 with r1
      subst r1
      have r3' : w.heap[g]? = some (.cells cur 80 (0, 0)) := (hk.block g gl).trans r3
      refine .inr ⟨g, _, rfl, r2, heap_setCell_at r3' _ _, by simp [r4], ?_⟩
      rw [Array.toList_setIfInBounds, ← r5, List.take_set]
      rfl
  · intro j hj f u hu
    have hj' : j < S.n := hj
    have hf : f < 22 := by
      rcases Nat.lt_or_ge f 22 with hh | hh
      · exact hh
      · rw [List.getElem?_eq_none (by rw [Dm.cells_len]; exact hh)] at hu; cases hu
    by_cases cj : j = i
    · subst cj
      have e : (S.setN j { S.nd j with attrs := l }).cells j (if j = j then ao else aa j) (if j = j then c else ac j) = (S.cells j (aa j) (ac j)).set 3 (.slice ao l.length c) := by
        simp only [Dm.cells, Dm.setN, if_pos]
        rfl
      rw [e] at hu
      by_cases c2 : f = 3
      · subst c2
        have hl : j * 22 + 3 < xs.length := by rw [ho.1]; have := Nat.mul_le_mul_right 22 hi; omega
        rw [List.getElem?_set_self (by rw [Dm.cells_len]; exact hf)] at hu
        rw [List.getElem?_set_self hl]
        exact hu
      · rw [List.getElem?_set_ne (by omega)] at hu
        rw [List.getElem?_set_ne (by omega)]
        exact hx j hj' f u hu
    · have e : (S.setN i { S.nd i with attrs := l }).cells j (if j = i then ao else aa j) (if j = i then c else ac j) = S.cells j (aa j) (ac j) := by
        simp only [Dm.cells, Dm.setN, if_neg cj]
      rw [e] at hu
      rw [List.getElem?_set_ne (by omega)]
      exact hx j hj' f u hu
  · intro j hj
    have hj' : j < S.n := hj
    by_cases cj : j = i
    · subst cj
      have e : ((S.setN j { S.nd j with attrs := l }).nd j).attrs = l := by simp only [Dm.setN, if_pos]
      rw [e]
      dsimp only
      rw [if_pos rfl, if_pos rfl]
      refine OwnZ.to hO (fun x hx hh => (OwnZ.out hO hx).1 ?_) (fun x hx => kG.block x fun e => (OwnZ.out hO hx).1 (e ▸ gl))
      rcases hh with hh | hh | hh
      · exact h1 x hh
      · rw [hh]; exact hp
      · have : x = g := by have hh' : some (⟨g, 0, none⟩ : Addr) = some ⟨x, 0, none⟩ := hh; injection hh' with hh'; injection hh' with hh'; exact hh'.symm
        rw [this]; exact gl
    · have e : ((S.setN i { S.nd i with attrs := l }).nd j).attrs = (S.nd j).attrs := by simp only [Dm.setN, if_neg cj]
      rw [e]
      dsimp only
      rw [if_neg cj, if_neg cj]
      exact OwnZ.to (ha j hj') (fun x hx => ((ha j hj').out hx).1) (fun x hx => kO.block x ⟨((ha j hj').out hx).2, fun e => ((ha j hj').out hx).1 (.inr (.inr (e ▸ rfl)))⟩)
  · intro j k hj hk' hne x hx1 hx2
    have hj' : j < S.n := hj
    have hk2 : k < S.n := hk'
    dsimp only at hx1 hx2
    by_cases cj : j = i
    · have ck : ¬ k = i := fun e => hne (cj.trans e.symm)
      rw [if_pos cj] at hx1
      rw [if_neg ck] at hx2
      exact (OwnZ.out hO hx1).1 ((ha k hk2).out hx2).2
    · rw [if_neg cj] at hx1
      by_cases ck : k = i
      · rw [if_pos ck] at hx2
        exact (OwnZ.out hO hx2).1 ((ha j hj').out hx1).2
      · rw [if_neg ck] at hx2
        exact hs j k hj' hk2 hne x hx1 hx2

theorem setA_mem : ∀ (l : List Atr) (a x : Atr), x ∈ setA l a → x ∈ l ∨ x = a
  | [], a, x, h => by
    rw [show setA [] a = [a] from rfl, List.mem_singleton] at h
    exact .inr h
  | y :: r, a, x, h => by
    rw [show setA (y :: r) a = if y.name = a.name then a :: r else y :: setA r a from rfl] at h
    by_cases c : y.name = a.name
    · rw [if_pos c] at h
      rcases List.mem_cons.1 h with h | h
      · exact .inr h
      · exact .inl (List.mem_cons_of_mem _ h)
    · rw [if_neg c] at h
      rcases List.mem_cons.1 h with h | h
      · exact .inl (h ▸ List.mem_cons_self ..)
      · rcases setA_mem r a x h with h | h
        · exact .inl (List.mem_cons_of_mem _ h)
        · exact .inr h
theorem setA_len : ∀ (l : List Atr) (a : Atr), (setA l a).length ≤ l.length + 1
  | [], a => by rw [show setA [] a = [a] from rfl]; simp
  | y :: r, a => by
    rw [show setA (y :: r) a = if y.name = a.name then a :: r else y :: setA r a from rfl]
    have := setA_len r a
    by_cases c : y.name = a.name
    · rw [if_pos c]; simp
    · rw [if_neg c]; simp; omega

set_option maxRecDepth 20000 in
set_option maxHeartbeats 2000000 in
theorem set_in (K : Nat → Prop) (p i : Nat) (M : Dm) (S T : ByteArray) (w : World) (h : DX K w p M) (hi : i < M.n) (hMn : M.n ≤ 1000000) (hkd : (M.nd i).kind = 1) (hfew : (M.nd i).attrs.length ≤ 100000) (hsz : ∀ x ∈ (M.nd i).attrs, x.name.length ≤ 1000000000 ∧ x.value.length ≤ 1000000000) (hS : S.size ≤ 1000000000) (hT : T.size ≤ 1000000000) :
    Calls Tryz.prog 26 #[.pointer (some ⟨p, 0, none⟩), .int .i64 (i : Int), .string S, .string T] w fun e w' =>
      ((soundL [⟨0, 1, (M.nd i).name, setA (M.nd i).attrs ⟨S.toList, T.toList⟩, []⟩] = true ∧ e = .returned (.int .u16 0) ∧ DX K w' p (M.setN i { M.nd i with attrs := setA (M.nd i).attrs ⟨S.toList, T.toList⟩ })) ∨
        (soundL [⟨0, 1, (M.nd i).name, setA (M.nd i).attrs ⟨S.toList, T.toList⟩, []⟩] = false ∧ e = .returned (.int .u16 82) ∧ DX K w' p M)) ∧ Kept K w w' := by
  obtain ⟨ga, gc, hY⟩ := h
  obtain ⟨g, rfl, -, -, -⟩ := hY.at (by omega)
  obtain ⟨aa, ac, hc, hO⟩ := hY.cell hi
  have c0 : w.cell? ⟨g, i * 22, none⟩ = some (.int .u8 1) := by have := hc 0 _ rfl; rw [hkd] at this; exact this
  have c1 : w.cell? ⟨g, i * 22 + 1, none⟩ = some (.string ⟨(M.nd i).name.toArray⟩) := hc 1 _ rfl
  have c3 : w.cell? ⟨g, i * 22 + 3, none⟩ = some (.slice aa (M.nd i).attrs.length ac) := hc 3 _ rfl
  have re := element_yes p g M.n gc i 81 w hY.c1 hi (by omega) c0
  have gl := hY.gk.2.2
  have rw' := withA_any (M.nd i).attrs _ rfl (by omega) aa ac S T w (hO.atsAt (K' := fun k => k < w.heap.size) fun x hx => (OwnZ.out hO hx).2)
  obtain ⟨nm, hnm⟩ : ∃ nm, (M.nd i).name = nm := ⟨_, rfl⟩
  obtain ⟨l0, hl0⟩ : ∃ l0, (M.nd i).attrs = l0 := ⟨_, rfl⟩
  obtain ⟨l, hl⟩ : ∃ l, setA (M.nd i).attrs ⟨S.toList, T.toList⟩ = l := ⟨_, rfl⟩
  have hll : l.length ≤ 100001 := by rw [← hl]; have := setA_len (M.nd i).attrs ⟨S.toList, T.toList⟩; omega
  have hlz : ∀ x ∈ l, x.name.length ≤ 1000000000 ∧ x.value.length ≤ 1000000000 := fun x hx => by
    rw [← hl] at hx
    rcases setA_mem _ _ _ hx with h | h
    · exact hsz x h
    · rw [h]
      have e1 : S.toList.length = S.size := by rw [ByteArray.toList_eq]; rfl
      have e2 : T.toList.length = T.size := by rw [ByteArray.toList_eq]; rfl
      exact ⟨by show S.toList.length ≤ _; omega, by show T.toList.length ≤ _; omega⟩
  rw [hl] at rw' ⊢
  rw [hl0] at rw' c3
  rw [hnm] at c1 ⊢
  obtain ⟨n0, hn0⟩ : ∃ n0, l0.length = n0 := ⟨_, rfl⟩
  rw [hn0] at rw' c3
  obtain ⟨n, hn⟩ : ∃ n, l.length = n := ⟨_, rfl⟩
  rw [hn] at rw'
  have HY : Hid (DY K w p M (some ⟨g, 0, none⟩) gc) := hY
  have HLZ : Hid (∀ x ∈ l, x.name.length ≤ 1000000000 ∧ x.value.length ≤ 1000000000) := hlz
  have HN : Hid (l.length = n) := hn
  have HLL : Hid (l.length ≤ 100001) := hll
  have hfg := hY.fg (i * 22 + 3)
  clear hY hc hO hlz hn hll hfew hsz hS hT hkd hn0 hl hl0 hnm c0
  go_enter Tryz.func26, Tryz.ntmps26
  go_upto_region 4 with (go_at_call 68; refine re.mono ?_; rintro e w2 ⟨rfl, hw2⟩; replace hw2 := hw2.symm; subst hw2)
  clear re
  go_wp2_with fail
  refine rw'.mono ?_
  rintro e w1 ⟨ao, c, rfl, hO, hK⟩
  have hc1 : w1.cell? ⟨g, i * 22 + 1, none⟩ = some (.string ⟨nm.toArray⟩) := (hK.cell (p := ⟨g, i * 22 + 1, none⟩) gl).trans c1
  obtain ⟨N, hN⟩ : ∃ N, w1.heap.size = N := ⟨_, rfl⟩
  have ri := iz1 w1 N hN 1 1 rfl ⟨nm.toArray⟩ ⟨#[]⟩ l ao n c HN.out (hO.atsAt (K' := fun k => k < w1.heap.size) fun x hx => (OwnZ.out hO hx).2) (by have := HLL.out; have := HN.out; omega) HLZ.out
  rw [ByteArray.toList_eq, ByteArray.toList_eq] at ri
  obtain ⟨q, hq⟩ : ∃ q, soundL [⟨0, 1, nm, l, []⟩] = q := ⟨_, rfl⟩
  have HRI : Hid (Calls Tryz.prog 70 #[.slice (some ⟨N, 0, none⟩) 1 1] (w1.alloc (.cells #[.int .i64 0, .int .u8 1, .string ⟨nm.toArray⟩, .string ⟨#[]⟩, .slice ao n c] 117)) fun e w' => e = .returned (.bool q) ∧ Kept (fun k => k < w1.heap.size) w1 w') := by rw [← hq]; exact ri
  have HO : Hid (OwnZ (fun k => k < w.heap.size) w1 67 2 ao n c (atrCells l)) := hO
  have HK : Hid (Kept (fun k => k < w.heap.size) w w1) := hK
  have HQ : Hid (soundL [⟨0, 1, nm, l, []⟩] = q) := hq
  have HNe : Hid (w1.heap.size = N) := hN
  clear rw' hO hK hN ri hq c1
  go_wp2_with fail
  rw [HNe.out]
  refine HRI.out.mono ?_
  rintro e w2 ⟨rfl, hk2⟩
  have hK2 : Kept (fun k => k < w.heap.size) w w2 := HK.out.trans (hk2.mono fun k h => Nat.lt_of_lt_of_le h HK.out.size)
  have hO2 : OwnZ (fun k => k < w.heap.size) w2 67 2 ao n c (atrCells l) := OwnZ.to HO.out (fun x hx => (OwnZ.out HO.out hx).1) (fun x hx => hk2.block x (OwnZ.out HO.out hx).2)
  have hc3 : w2.cell? ⟨g, i * 22 + 3, none⟩ = some (.slice aa n0 ac) := (hK2.cell (p := ⟨g, i * 22 + 3, none⟩) gl).trans c3
  have hf3 : w2.frozen? ⟨g, i * 22 + 3, none⟩ = false := (hK2.frozen (p := ⟨g, i * 22 + 3, none⟩) gl).trans hfg
  cases q with
  | true =>
    obtain ⟨hY4, hK4⟩ := HY.out.setAttrs hK2 hi HN.out hO2
    have HY4 : Hid (DX K (w2.setCell ⟨g, i * 22 + 3, none⟩ (.slice ao n c)) p (M.setN i { M.nd i with attrs := l })) := ⟨_, _, hY4⟩
    have HK4 : Hid (Kept K w (w2.setCell ⟨g, i * 22 + 3, none⟩ (.slice ao n c))) := hK4
    clear HRI hk2 hK2 hO2 hY4 hK4 hc1 c3 hfg
    go_wp2
    go_ret
    exact ⟨.inl ⟨HQ.out, rfl, HY4.out⟩, HK4.out⟩
  | false =>
    have HX2 : Hid (DX K w2 p M) := ⟨_, _, HY.out.kept hK2⟩
    have HK2 : Hid (Kept K w w2) := hK2.mono HY.out.1
    clear HRI hk2 hK2 hO2 hc1 c3 hfg hc3 hf3
    go_wp2
    go_ret
    exact ⟨.inr ⟨HQ.out, rfl, HX2.out⟩, HK2.out⟩
end Go.Proofs.YthhoicmfmfeehaaGreat
