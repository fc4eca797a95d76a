/-
  The document's own Copy: the rows of a copy grow.
-/
import Derived.Test.YthhoicmfmfeehaaGreatZ44
import Derived.Test.YthhoicmfmfeehaaGreatZ36
namespace Go.Proofs.YthhoicmfmfeehaaGreat
open Go.RowKit Go.Sort
set_option linter.unusedVariables false
/-- The first m nodes. -/
def Dm.cut (M : Dm) (m : Nat) : Dm := { M with n := m }
def RA.cop (A : RA) (n : Nat) (na : Option Addr) (nc : Nat) (aa : Option Addr) (ac : Nat) (ka : Option Addr) (kc : Nat) : RA := { A with na := na, nc := nc, aa := fun k => if k = n then aa else A.aa k, ac := fun k => if k = n then ac else A.ac k, ka := fun k => if k = n then ka else A.ka k, kc := fun k => if k = n then kc else A.kc k }
def RA.copG (A : RA) (m : Nat) (qa : Option Addr) (qc : Nat) (ga : Option Addr) (gc : Nat) : RA := { A with qa := qa, qc := qc, ga := fun k => if k = m then ga else A.ga k, gc := fun k => if k = m then gc else A.gc k }
section
variable {K : Nat → Prop} {w : World} {p : Nat} {M : Dm} {R G : Nat → List Nat} {A : RA}
theorem RYg.copN {w0 : World} {m : Nat} (h : RYg K w0 p (M.cut m) R G A m) (hk : Kept (fun k => k < w0.heap.size) w0 w) (hn : m ≤ 1000000) (aa : Option Addr) (ac : Nat) (ka : Option Addr) (kc : Nat) (hxa : AtsAt (fun g => w0.heap.size ≤ g ∧ g < w.heap.size) w aa (M.nd m).attrs) (hac : (M.nd m).attrs.length ≤ ac) (hxk : IntsAt (fun g => w0.heap.size ≤ g ∧ g < w.heap.size) w ka (R m)) (hkc : (R m).length ≤ kc) :
    ∃ na' nc' w', (Builtin.append_ #[81, 81] 81 #[.slice A.na m A.nc, .slice (some ⟨w.heap.size, 0, none⟩) 1 1]).run Tryz.prog (w.alloc (.cells (rCells M R m aa ac ka kc).toArray 45)) = .ok (.slice na' (m + 1) nc') w' ∧
      w'.cell? ⟨p, 1, none⟩ = some (.slice A.na m A.nc) ∧ w'.frozen? ⟨p, 1, none⟩ = false ∧ RYg K (w'.setCell ⟨p, 1, none⟩ (.slice na' (m + 1) nc')) p (M.cut (m + 1)) R G (A.cop m na' nc' aa ac ka kc) m ∧ Kept K w0 (w'.setCell ⟨p, 1, none⟩ (.slice na' (m + 1) nc')) := by
  obtain ⟨xs, ho, hx⟩ := h.nown
  obtain ⟨ys, hq, hy⟩ := h.qown
  have hp0 : p < w0.heap.size := lt_block h.blk
  obtain ⟨inf, hi, hip⟩ := Option.map_eq_some_iff.1 infoR
  have hz0 : inf.zero = _ := congrArg (·.1) hip
  have hsz : inf.size = 14 := congrArg (·.2.1) hip
  have hby : inf.bytes = 128 := congrArg (·.2.2) hip
  obtain ⟨W, hW⟩ : ∃ W, w.alloc (.cells (rCells M R m aa ac ka kc).toArray 45) = W := ⟨_, rfl⟩
  rw [hW]
  have hsrc : Src Tryz.prog 14 81 (.slice (some ⟨w.heap.size, 0, none⟩) 1 1) 1 (rCells M R m aa ac ka kc) W := by
    rw [← hW]
    exact src_newZ w w.heap.size (rCells M R m aa ac ka kc) _ Tryz.underlying81 (rn_one _ _ _ _ _ _ _) rfl rfl
  have kW : Kept (fun k => k < w.heap.size) w W := by rw [← hW]; exact (Kept.refl _ w).alloc (fun _ h => h) _
  have k0W : Kept (fun k => k < w0.heap.size) w0 W := hk.trans (kW.mono fun k h => Nat.lt_of_lt_of_le h hk.size)
  have hoW : OwnZ (fun k => k < W.heap.size ∧ ¬ blkOf A.na k) W 45 14 A.na m A.nc xs := OwnZ.to ho (fun g hg hh => hh.2 hg) (fun g hg => k0W.block g (ho.out hg).2)
  obtain ⟨na', nc', w', hrun, ho', hk'⟩ := run_appW (P := Tryz.prog) W 81 81 81 45 inf _ Tryz.underlying81 hi hz0 14 hsz rfl (by omega) hoW _ _ hsrc (fun k hk => hk.1) (by omega)
  have hpg : ¬ blkOf A.na p := fun hb => (ho.out hb).1 (.inr rfl)
  have hpW : p < W.heap.size := Nat.lt_of_lt_of_le hp0 k0W.size
  have hb' : w'.heap[p]? = some (.cells #[.int .i64 (M.limit : Int), .slice A.na m A.nc, .slice A.qa m A.qc] 84 (0, 0)) := by rw [hk'.block p ⟨hpW, hpg⟩, k0W.block p hp0]; exact h.blk
  have hnew : ∀ g, blkOf na' g → blkOf A.na g ∨ W.heap.size ≤ g := fun g hg => by
    have := (OwnZ.out ho' hg).1
    by_cases hb : blkOf A.na g
    · exact .inl hb
    · exact .inr (Nat.le_of_not_lt fun hl => this ⟨hl, hb⟩)
  have hpg' : ¬ blkOf na' p := fun hb => by
    rcases hnew p hb with hh | hh
    · exact hpg hh
    · omega
  -- all that is neither the elder row nor p is as it was
  have kS : ∀ k, k < W.heap.size → ¬ blkOf A.na k → k ≠ p → (w'.setCell ⟨p, 1, none⟩ (.slice na' (m + 1) nc')).heap[k]? = W.heap[k]? := fun k hl hg hp => by
    rw [Below.heap_setCell _ _ _ _ (fun e => hp e)]
    exact hk'.block k ⟨hl, hg⟩
  have kS0 : ∀ k, k < w0.heap.size → ¬ blkOf A.na k → k ≠ p → (w'.setCell ⟨p, 1, none⟩ (.slice na' (m + 1) nc')).heap[k]? = w0.heap[k]? := fun k hl hg hp => by
    rw [kS k (Nat.lt_of_lt_of_le hl k0W.size) hg hp, k0W.block k hl]
  have ksz : W.heap.size ≤ (w'.setCell ⟨p, 1, none⟩ (.slice na' (m + 1) nc')).heap.size := by
    have : (w'.setCell ⟨p, 1, none⟩ (.slice na' (m + 1) nc')).heap.size = w'.heap.size := by simp
    rw [this]
    exact hk'.size
  have kK : Kept K w0 (w'.setCell ⟨p, 1, none⟩ (.slice na' (m + 1) nc')) := by
    refine ((k0W.mono h.lt).trans (hk'.mono fun k hK => ⟨Nat.lt_of_lt_of_le (h.lt k hK) k0W.size, fun hb => (ho.out hb).1 (.inl hK)⟩)).setCell (p := ⟨p, 1, none⟩) h.pk _
  have gaE : ∀ i, i < m → (A.cop m na' nc' aa ac ka kc).ga i = A.ga i := fun i hi => rfl
  -- what was not written stays so
  have bad0 : ∀ g, g < w0.heap.size → ¬ A.bad K p m g → ¬ (A.cop m na' nc' aa ac ka kc).bad K p m g := fun g hl hb hb' => by
    rcases hb' with h1 | h1 | h1 | h1 | ⟨i, hi, h1⟩
    · exact hb (.inl h1)
    · exact hb (.inr (.inl h1))
    · rcases hnew g h1 with h2 | h2
      · exact hb (.inr (.inr (.inl h2)))
      · have := k0W.size; omega
    · exact hb (.inr (.inr (.inr (.inl h1))))
    · rw [gaE i hi] at h1
      exact hb (.inr (.inr (.inr (.inr ⟨i, hi, h1⟩))))
  have badN : ∀ g, w0.heap.size ≤ g → g < w.heap.size → ¬ (A.cop m na' nc' aa ac ka kc).bad K p m g := fun g hg hl hb' => by
    rcases hb' with h1 | h1 | h1 | h1 | ⟨i, hi, h1⟩
    · have := h.lt g h1; omega
    · omega
    · rcases hnew g h1 with h2 | h2
      · have := (ho.out h2).2; omega
      · have := kW.size; omega
    · have := (hq.out h1).2; omega
    · rw [gaE i hi] at h1
      have := ((h.gown i hi).out h1).2; omega
  refine ⟨na', nc', w', hrun, by rw [cell_block hb']; rfl, frozen_block hb' _, ⟨fun k hK => Nat.lt_of_lt_of_le (h.lt k hK) kK.size, h.pk, ?_, ⟨xs ++ rCells M R m aa ac ka kc, ?_, ?_⟩, ⟨ys, ?_, ?_⟩, ?_, ?_, ?_, ?_, ?_, ?_⟩, kK⟩
  · rw [heap_setCell_at hb']; rfl
  · refine OwnZ.to ho' (fun g hg hh => ?_) (fun g hg => ?_)
    · rcases hh with hh | hh
      · rcases hnew g hg with hq' | hq'
        · exact (ho.out hq').1 (.inl hh)
        · have := h.lt g hh
          have := k0W.size
          omega
      · subst hh; exact hpg' hg
    · exact Below.heap_setCell _ _ _ _ (fun e => hpg' (by have e : g = p := e; rw [← e]; exact hg))
  · intro i hi f u hu
    have hlx : xs.length = m * 14 := ho.1
    by_cases c : i = m
    · subst i
      have e : rCells (M.cut (m + 1)) R m ((A.cop m na' nc' aa ac ka kc).aa m) ((A.cop m na' nc' aa ac ka kc).ac m) ((A.cop m na' nc' aa ac ka kc).ka m) ((A.cop m na' nc' aa ac ka kc).kc m) = rCells M R m aa ac ka kc := by
        simp only [RA.cop, if_pos]
        rfl
      rw [e] at hu
      rw [List.getElem?_append_right (by omega), hlx, show m * 14 + f - m * 14 = f from by omega]
      exact hu
    · have hiS : i < m := by have : i < m + 1 := hi; omega
      have e : rCells (M.cut (m + 1)) R i ((A.cop m na' nc' aa ac ka kc).aa i) ((A.cop m na' nc' aa ac ka kc).ac i) ((A.cop m na' nc' aa ac ka kc).ka i) ((A.cop m na' nc' aa ac ka kc).kc i) = rCells M R i (A.aa i) (A.ac i) (A.ka i) (A.kc i) := by
        simp only [RA.cop, if_neg c]
        rfl
      rw [e] at hu
      have := hx i hiS f u hu
      rw [List.getElem?_append_left]
      · exact this
      · rcases Nat.lt_or_ge (i * 14 + f) xs.length with hl | hg
        · exact hl
        · rw [List.getElem?_eq_none hg] at this; cases this
  · refine OwnZ.to hq (fun g hg hh => ?_) (fun g hg => kS0 g (hq.out hg).2 (fun hb => (hq.out hg).1 (.inr (.inr hb))) (fun e => (hq.out hg).1 (.inr (.inl e))))
    rcases hh with hh | hh | hh
    · exact (hq.out hg).1 (.inl hh)
    · exact (hq.out hg).1 (.inr (.inl hh))
    · rcases hnew g hh with hh | hh
      · exact (hq.out hg).1 (.inr (.inr hh))
      · have := (hq.out hg).2; have := k0W.size; omega
  · intro i hi
    have c : i ≠ m := by omega
    simp only [RA.cop]
    exact hy i hi
  · intro i hi
    have c : i ≠ m := by omega
    simp only [RA.cop]
    have hgo := h.gown i hi
    refine OwnZ.to hgo (fun g hg hh => ?_) (fun g hg => kS0 g (hgo.out hg).2 (fun hb => (hgo.out hg).1 (.inr (.inr (.inl hb)))) (fun e => (hgo.out hg).1 (.inr (.inl e))))
    rcases hh with hh | hh | hh | hh
    · exact (hgo.out hg).1 (.inl hh)
    · exact (hgo.out hg).1 (.inr (.inl hh))
    · rcases hnew g hh with hh | hh
      · exact (hgo.out hg).1 (.inr (.inr (.inl hh)))
      · have := (hgo.out hg).2; have := k0W.size; omega
    · exact (hgo.out hg).1 (.inr (.inr (.inr hh)))
  · intro i j hi hj hij g hg hh
    rw [gaE i hi] at hg
    rw [gaE j hj] at hh
    exact h.gsep i j hi hj hij g hg hh
  · intro i hi
    by_cases c : i = m
    · subst i
      have e : ((M.cut (m + 1)).nd m) = M.nd m := rfl
      have e2 : (A.cop m na' nc' aa ac ka kc).aa m = aa := if_pos rfl
      rw [e, e2]
      refine hxa.to (fun g hg => ⟨?_, badN g hg.1 hg.2⟩) (fun g hg => ?_)
      · exact Nat.lt_of_lt_of_le hg.2 (Nat.le_trans kW.size ksz)
      · rw [kS g (Nat.lt_of_lt_of_le hg.2 kW.size) (fun hb => by have := (ho.out hb).2; omega) (fun e => by omega), kW.block g hg.2]
    · have hiS : i < m := by have : i < m + 1 := hi; omega
      have e : ((M.cut (m + 1)).nd i) = M.nd i := rfl
      have e2 : (A.cop m na' nc' aa ac ka kc).aa i = A.aa i := if_neg c
      rw [e, e2]
      exact (h.ats i hiS).to (fun g hg => ⟨Nat.lt_of_lt_of_le hg.1 kK.size, bad0 g hg.1 hg.2⟩) (fun g hg => kS0 g hg.1 (fun hb => hg.2 (.inr (.inr (.inl hb)))) (fun e => hg.2 (.inr (.inl e))))
  · intro i hi
    by_cases c : i = m
    · subst i
      have e : ((M.cut (m + 1)).nd m) = M.nd m := rfl
      have e2 : (A.cop m na' nc' aa ac ka kc).ac m = ac := if_pos rfl
      rw [e, e2]; exact hac
    · have hiS : i < m := by have : i < m + 1 := hi; omega
      have e : ((M.cut (m + 1)).nd i) = M.nd i := rfl
      have e2 : (A.cop m na' nc' aa ac ka kc).ac i = A.ac i := if_neg c
      rw [e, e2]; exact h.acl i hiS
  · intro i hi
    by_cases c : i = m
    · subst i
      have e2 : (A.cop m na' nc' aa ac ka kc).ka m = ka := if_pos rfl
      rw [e2]
      refine hxk.to (fun g hg => ⟨?_, badN g hg.1 hg.2⟩) (fun g hg => ?_)
      · exact Nat.lt_of_lt_of_le hg.2 (Nat.le_trans kW.size ksz)
      · rw [kS g (Nat.lt_of_lt_of_le hg.2 kW.size) (fun hb => by have := (ho.out hb).2; omega) (fun e => by omega), kW.block g hg.2]
    · have hiS : i < m := by have : i < m + 1 := hi; omega
      have e2 : (A.cop m na' nc' aa ac ka kc).ka i = A.ka i := if_neg c
      rw [e2]
      exact (h.kid i hiS).to (fun g hg => ⟨Nat.lt_of_lt_of_le hg.1 kK.size, bad0 g hg.1 hg.2⟩) (fun g hg => kS0 g hg.1 (fun hb => hg.2 (.inr (.inr (.inl hb)))) (fun e => hg.2 (.inr (.inl e))))
  · intro i hi
    by_cases c : i = m
    · subst i
      have e2 : (A.cop m na' nc' aa ac ka kc).kc m = kc := if_pos rfl
      rw [e2]; exact hkc
    · have hiS : i < m := by have : i < m + 1 := hi; omega
      have e2 : (A.cop m na' nc' aa ac ka kc).kc i = A.kc i := if_neg c
      rw [e2]; exact h.kcl i hiS
/-- The row of what is given grows by a row of one's own. -/
theorem RYg.copQ {w0 : World} {m : Nat} (h : RYg K w0 p M R G A m) (hm : M.n = m + 1) (hk : Kept (fun k => k < w0.heap.size) w0 w) (hn : m ≤ 1000000) (ga : Option Addr) (gc : Nat) (hgo : OwnZ (fun k => k < w0.heap.size) w 3 1 ga (G m).length gc (ivs (G m))) :
    ∃ qa' qc' w', (Builtin.append_ #[82, 82] 82 #[.slice A.qa m A.qc, .slice (some ⟨w.heap.size, 0, none⟩) 1 1]).run Tryz.prog (w.alloc (.cells #[.slice ga (G m).length gc] 33)) = .ok (.slice qa' (m + 1) qc') w' ∧
      w'.cell? ⟨p, 2, none⟩ = some (.slice A.qa m A.qc) ∧ w'.frozen? ⟨p, 2, none⟩ = false ∧ RY K (w'.setCell ⟨p, 2, none⟩ (.slice qa' (m + 1) qc')) p M R G (A.copG m qa' qc' ga gc) ∧ Kept K w0 (w'.setCell ⟨p, 2, none⟩ (.slice qa' (m + 1) qc')) := by
  obtain ⟨xs, ho, hx⟩ := h.nown
  obtain ⟨ys, hq, hy⟩ := h.qown
  have hp0 := lt_block h.blk
  obtain ⟨inf, hi, hip⟩ := Option.map_eq_some_iff.1 infoQ
  have hz0 : inf.zero = _ := congrArg (·.1) hip
  have hsz : inf.size = 1 := congrArg (·.2.1) hip
  have hby : inf.bytes = 24 := congrArg (·.2.2) hip
  obtain ⟨W, hW⟩ : ∃ W, w.alloc (.cells #[.slice ga (G m).length gc] 33) = W := ⟨_, rfl⟩
  rw [hW]
  have hsrc : Src Tryz.prog 1 82 (.slice (some ⟨w.heap.size, 0, none⟩) 1 1) 1 [.slice ga (G m).length gc] W := by
    rw [← hW]
    exact src_newZ w w.heap.size [.slice ga (G m).length gc] _ Tryz.underlying82 (fun u hu => by rw [List.mem_singleton.1 hu]; rfl) rfl rfl
  have kW : Kept (fun k => k < w.heap.size) w W := by rw [← hW]; exact (Kept.refl _ w).alloc (fun _ h => h) _
  have k0W : Kept (fun k => k < w0.heap.size) w0 W := hk.trans (kW.mono fun k h => Nat.lt_of_lt_of_le h hk.size)
  have hqW : OwnZ (fun k => k < W.heap.size ∧ ¬ blkOf A.qa k) W 33 1 A.qa m A.qc ys := OwnZ.to hq (fun g hg hh => hh.2 hg) (fun g hg => k0W.block g (hq.out hg).2)
  obtain ⟨qa', qc', w', hrun, hq', hk'⟩ := run_appZ (P := Tryz.prog) W 82 82 82 33 inf _ Tryz.underlying82 hi hz0 1 hsz rfl (by omega) hqW _ _ hsrc (fun k hk => hk.1) (by omega)
  have hpg : ¬ blkOf A.qa p := fun hb => (hq.out hb).1 (.inr (.inl rfl))
  have hpW : p < W.heap.size := Nat.lt_of_lt_of_le hp0 k0W.size
  have hb' : w'.heap[p]? = some (.cells #[.int .i64 (M.limit : Int), .slice A.na M.n A.nc, .slice A.qa m A.qc] 84 (0, 0)) := by rw [hk'.block p ⟨hpW, hpg⟩, k0W.block p hp0]; exact h.blk
  have hnew : ∀ g, blkOf qa' g → blkOf A.qa g ∨ W.heap.size ≤ g := fun g hg => by
    have := (OwnZ.out hq' hg).1
    by_cases hb : blkOf A.qa g
    · exact .inl hb
    · exact .inr (Nat.le_of_not_lt fun hl => this ⟨hl, hb⟩)
  have hpg' : ¬ blkOf qa' p := fun hb => by
    rcases hnew p hb with hh | hh
    · exact hpg hh
    · omega
  have kS : ∀ k, k < W.heap.size → ¬ blkOf A.qa k → k ≠ p → (w'.setCell ⟨p, 2, none⟩ (.slice qa' (m + 1) qc')).heap[k]? = W.heap[k]? := fun k hl hg hp => by
    rw [Below.heap_setCell _ _ _ _ (fun e => hp e), hk'.block k ⟨hl, hg⟩]
  have kS0 : ∀ k, k < w0.heap.size → ¬ blkOf A.qa k → k ≠ p → (w'.setCell ⟨p, 2, none⟩ (.slice qa' (m + 1) qc')).heap[k]? = w0.heap[k]? := fun k hl hg hp => by
    rw [kS k (Nat.lt_of_lt_of_le hl k0W.size) hg hp, k0W.block k hl]
  have kK : Kept K w0 (w'.setCell ⟨p, 2, none⟩ (.slice qa' (m + 1) qc')) := by
    refine ((k0W.mono h.lt).trans (hk'.mono fun k hK => ⟨Nat.lt_of_lt_of_le (h.lt k hK) k0W.size, fun hb => (hq.out hb).1 (.inl hK)⟩)).setCell (p := ⟨p, 2, none⟩) h.pk _
  have bad0 : ∀ g, g < w0.heap.size → ¬ A.bad K p m g → ¬ (A.copG m qa' qc' ga gc).bad K p M.n g := fun g hl hb hb' => by
    rcases hb' with h1 | h1 | h1 | h1 | ⟨i, hi, h1⟩
    · exact hb (.inl h1)
    · exact hb (.inr (.inl h1))
    · exact hb (.inr (.inr (.inl h1)))
    · rcases hnew g h1 with h2 | h2
      · exact hb (.inr (.inr (.inr (.inl h2))))
      · have := k0W.size; omega
    · by_cases c : i = m
      · have h1 : blkOf (if i = m then ga else A.ga i) g := h1
        rw [if_pos c] at h1
        exact (hgo.out h1).1 hl
      · have h1 : blkOf (if i = m then ga else A.ga i) g := h1
        rw [if_neg c] at h1
        exact hb (.inr (.inr (.inr (.inr ⟨i, by omega, h1⟩))))
  have low : ∀ i, i < M.n → i = m ∨ i < m := fun i hi => by omega
  refine ⟨qa', qc', w', hrun, by rw [cell_block hb']; rfl, frozen_block hb' _, ⟨fun k hK => Nat.lt_of_lt_of_le (h.lt k hK) kK.size, h.pk, ?_, ⟨xs, ?_, hx⟩, ⟨ys ++ [.slice ga (G m).length gc], ?_, ?_⟩, ?_, ?_, ?_, h.acl, ?_, h.kcl⟩, kK⟩
  · rw [heap_setCell_at hb', hm]; rfl
  · refine OwnZ.to ho (fun g hg => (ho.out hg).1) (fun g hg => kS0 g (ho.out hg).2 (fun hb => (hq.out hb).1 (.inr (.inr hg))) (fun e => (ho.out hg).1 (.inr e)))
  · rw [hm]
    refine OwnZ.to hq' (fun g hg hh => ?_) (fun g hg => ?_)
    · rcases hnew g hg with h1 | h1
      · exact (hq.out h1).1 hh
      · have := k0W.size
        rcases hh with hh | hh | hh
        · have := h.lt g hh; omega
        · omega
        · have := (ho.out hh).2; omega
    · exact Below.heap_setCell _ _ _ _ (fun e => hpg' (by have e : g = p := e; rw [← e]; exact hg))
  · intro i hi
    rw [hm] at hi
    have hly : ys.length = m := by have := hq.1; omega
    by_cases c : i = m
    · subst i
      rw [List.getElem?_append_right (by omega), hly, Nat.sub_self]
      show some _ = some (Value.slice (if m = m then ga else A.ga m) (G m).length (if m = m then gc else A.gc m))
      rw [if_pos rfl, if_pos rfl]
    · rw [List.getElem?_append_left (by omega)]
      show _ = some (Value.slice (if i = m then ga else A.ga i) (G i).length (if i = m then gc else A.gc i))
      rw [if_neg c, if_neg c]
      exact hy i (by omega)
  · intro i hi
    rcases low i hi with c | c
    · subst i
      show OwnZ _ _ 3 1 (if m = m then ga else A.ga m) (G m).length (if m = m then gc else A.gc m) (ivs (G m))
      rw [if_pos rfl, if_pos rfl]
      refine OwnZ.to hgo (fun g hg hh => ?_) (fun g hg => ?_)
      · have o1 := (hgo.out hg).1
        rcases hh with hh | hh | hh | hh
        · exact o1 (h.lt g hh)
        · exact o1 (by rw [hh]; exact hp0)
        · exact o1 (ho.out hh).2
        · rcases hnew g hh with hh | hh
          · exact o1 (hq.out hh).2
          · have := (hgo.out hg).2; have := kW.size; omega
      · have o1 := (hgo.out hg).1
        rw [kS g (Nat.lt_of_lt_of_le (hgo.out hg).2 kW.size) (fun hb => o1 (hq.out hb).2) (fun e => o1 (by rw [e]; exact hp0)), kW.block g (hgo.out hg).2]
    · have hgi := h.gown i c
      show OwnZ _ _ 3 1 (if i = m then ga else A.ga i) (G i).length (if i = m then gc else A.gc i) (ivs (G i))
      rw [if_neg (by omega), if_neg (by omega)]
      refine OwnZ.to hgi (fun g hg hh => ?_) (fun g hg => kS0 g (hgi.out hg).2 (fun hb => (hgi.out hg).1 (.inr (.inr (.inr hb)))) (fun e => (hgi.out hg).1 (.inr (.inl e))))
      rcases hh with hh | hh | hh | hh
      · exact (hgi.out hg).1 (.inl hh)
      · exact (hgi.out hg).1 (.inr (.inl hh))
      · exact (hgi.out hg).1 (.inr (.inr (.inl hh)))
      · rcases hnew g hh with hh | hh
        · exact (hgi.out hg).1 (.inr (.inr (.inr hh)))
        · have := (hgi.out hg).2; have := k0W.size; omega
  · intro i j hi hj hij g hg hh
    have hg : blkOf (if i = m then ga else A.ga i) g := hg
    have hh : blkOf (if j = m then ga else A.ga j) g := hh
    rcases low i hi with c | c
    · rcases low j hj with c' | c'
      · omega
      · rw [if_pos c] at hg
        rw [if_neg (by omega)] at hh
        exact (hgo.out hg).1 ((h.gown j c').out hh).2
    · rcases low j hj with c' | c'
      · rw [if_neg (by omega)] at hg
        rw [if_pos c'] at hh
        exact (hgo.out hh).1 ((h.gown i c).out hg).2
      · rw [if_neg (by omega)] at hg
        rw [if_neg (by omega)] at hh
        exact h.gsep i j c c' hij g hg hh
  · intro i hi
    exact (h.ats i hi).to (fun g hg => ⟨Nat.lt_of_lt_of_le hg.1 kK.size, bad0 g hg.1 hg.2⟩) (fun g hg => kS0 g hg.1 (fun hb => hg.2 (.inr (.inr (.inr (.inl hb))))) (fun e => hg.2 (.inr (.inl e))))
  · intro i hi
    exact (h.kid i hi).to (fun g hg => ⟨Nat.lt_of_lt_of_le hg.1 kK.size, bad0 g hg.1 hg.2⟩) (fun g hg => kS0 g hg.1 (fun hb => hg.2 (.inr (.inr (.inr (.inl hb))))) (fun e => hg.2 (.inr (.inl e))))
end
end Go.Proofs.YthhoicmfmfeehaaGreat
