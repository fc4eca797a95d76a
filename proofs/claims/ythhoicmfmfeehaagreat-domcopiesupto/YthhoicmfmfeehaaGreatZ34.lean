/-
  The document's own SameInts, SameAttrs.
  The document's own SameAttrs.
  The program's Slot and Given.
  Two documents side by side: the program's and the document's own, over the same nodes.
-/
import Derived.Test.YthhoicmfmfeehaaGreatZ33
import Derived.Laws.StructEq
import Derived.Test.YthhoicmfmfeehaaGreatZ20
namespace Go.Proofs.YthhoicmfmfeehaaGreat
open Go.RowKit Go.Sort
set_option linter.unusedVariables false
set_option maxRecDepth 20000 in
set_option maxHeartbeats 1000000 in
theorem rsameInts_any (a b : List Nat) (aa ba : Option Addr) (an bn ac bc : Nat) (han : a.length = an) (hbn : b.length = bn) (ha1 : an ≤ 1000000) (hb1 : bn ≤ 1000000) (w : World) (ha : IntsAt (fun k => k < w.heap.size) w aa a) (hb : IntsAt (fun k => k < w.heap.size) w ba b) :
    Calls Tryz.prog 30 #[.slice aa an ac, .slice ba bn bc] w fun e w' => e = .returned (.bool (decide (a = b))) ∧ Kept (fun k => k < w.heap.size) w w' := by
  have HA : Hid (IntsAt (fun k => k < w.heap.size) w aa a) := ha
  have HB : Hid (IntsAt (fun k => k < w.heap.size) w ba b) := hb
  have HAN : Hid (a.length = an) := han
  have HBN : Hid (b.length = bn) := hbn
  obtain ⟨q, hq⟩ : ∃ q, decide (a = b) = q := ⟨_, rfl⟩
  have HQ : Hid (decide (a = b) = q) := hq
  rw [hq]
  clear ha hb han hbn hq
  by_cases hl : an = bn
  · subst hl
    go_enter Tryz.func30, Tryz.ntmps30
    go_upto_region 4 with fail
    go_loopg [5] an (fun gh v wr => ∃ k : Nat, gh = an - k ∧ k ≤ an ∧ v = .int .i64 (k : Int) ∧ a.take k = b.take k ∧ Kept (fun k => k < w.heap.size) w wr)
    case atStart => exact ⟨0, rfl, Nat.zero_le _, rfl, rfl, Kept.refl _ _⟩
    case round =>
      obtain ⟨k, hgk, hk, rfl, heq, hKk⟩ := hrel
      have HKk : Hid (Kept (fun k => k < w.heap.size) w wr) := hKk
      have HEQ : Hid (a.take k = b.take k) := heq
      clear heq
      by_cases hlt : k < an
      · have hka : k < a.length := by rw [HAN.out]; exact hlt
        have hkb : k < b.length := by rw [HBN.out]; exact hlt
        obtain ⟨g1, o1, rfl, hg1, d1⟩ := HA.out k hka
        obtain ⟨g2, o2, rfl, hg2, d2⟩ := HB.out k hkb
        obtain ⟨x, hx⟩ : ∃ x, a[k] = x := ⟨_, rfl⟩
        obtain ⟨y, hy⟩ : ∃ y, b[k] = y := ⟨_, rfl⟩
        rw [hx] at d1
        rw [hy] at d2
        have d1' : wr.cell? ⟨g1, o1 + k, none⟩ = some (.int .i64 (x : Int)) := (hKk.cell (p := ⟨g1, o1 + k, none⟩) hg1).trans d1
        have d2' : wr.cell? ⟨g2, o2 + k, none⟩ = some (.int .i64 (y : Int)) := (hKk.cell (p := ⟨g2, o2 + k, none⟩) hg2).trans d2
        have HXE : Hid (a[k] = x) := hx
        have HYE : Hid (b[k] = y) := hy
        clear hx hy d1 d2 hKk
        by_cases e : x = y
        · subst e
          have HXE2 : Hid (b[k] = x) := HYE
          go_upto_region 6 with fail
          go_quiet (fail)
          go_wp2
          go_roundg (an - (k + 1))
          case rel =>
            refine ⟨k + 1, rfl, by omega, by go_num, ?_, HKk.out.drewN _⟩
            rw [List.take_succ_eq_append_getElem hka, List.take_succ_eq_append_getElem hkb, HEQ.out, HXE.out, HXE2.out]
          case measure => omega
        · have e1 : ((x : Int) != (y : Int)) = true := by simp; omega
          have HNE : Hid (x ≠ y) := e
          clear e
          have hq : q = false := by
            rw [← HQ.out]
            refine decide_eq_false fun c => ?_
            subst c
            exact HNE.out (HXE.out.symm.trans HYE.out)
          subst hq
          go_upto_region 6 with fail
          go_quiet (fail)
          go_wp2
          go_ret
          exact ⟨rfl, HKk.out.drewN _⟩
      · have hkn : an = k := by omega
        subst hkn
        have hq : q = true := by
          rw [← HQ.out]
          refine decide_eq_true ?_
          have := HEQ.out
          rw [List.take_of_length_le (by rw [HAN.out]; exact Nat.le_refl _), List.take_of_length_le (by rw [HBN.out]; exact Nat.le_refl _)] at this
          exact this
        subst hq
        clear hKk
        go_wp2
        go_ret
        exact ⟨rfl, HKk.out⟩
  · have e1 : ((an : Int) != (bn : Int)) = true := by simp; omega
    have HNE : Hid (an ≠ bn) := hl
    clear hl
    have hq : q = false := by
      rw [← HQ.out]
      refine decide_eq_false fun c => ?_
      subst c
      exact HNE.out (HAN.out.symm.trans HBN.out)
    subst hq
    go_enter Tryz.func30, Tryz.ntmps30
    go_wp2
    go_ret
    exact ⟨rfl, Kept.refl _ _⟩
end Go.Proofs.YthhoicmfmfeehaaGreat

namespace Go.Proofs.YthhoicmfmfeehaaGreat
open Go.RowKit Go.Sort
set_option linter.unusedVariables false
theorem eql67 (S1 T1 S2 T2 : ByteArray) (X : World) : (binOp .eql 67 (.agg #[.string S1, .string T1]) (.agg #[.string S2, .string T2])).run Tryz.prog X = .ok (.bool ((S1.toList == S2.toList) && (T1.toList == T2.toList))) X := by
  have hS : Tryz.prog.underlying 67 = some (.struct (Tryz.prog.fieldsOf 67)) := by kernel_rfl
  have hp : Tryz.prog.stoodInHeld 67 = false := by kernel_rfl
  rw [run_eql_struct, show (10000 : Nat) = 9999 + 1 from rfl, run_equalIn_agg X 9999 67 _ _ hS hp]
  have u3 := Tryz.underlying9
  have z3 : Tryz.prog.cellsOf 9 = 1 := by kernel_rfl
  simp only [Program.fieldsOf, Tryz.underlying67]
  go_simp
  cases h1 : (S1.toList == S2.toList) <;> cases h2 : (T1.toList == T2.toList) <;> simp_all
theorem neq67 (S1 T1 S2 T2 : ByteArray) (X : World) : (binOp .neq 67 (.agg #[.string S1, .string T1]) (.agg #[.string S2, .string T2])).run Tryz.prog X = .ok (.bool (!((S1.toList == S2.toList) && (T1.toList == T2.toList)))) X := by
  have hS : Tryz.prog.underlying 67 = some (.struct (Tryz.prog.fieldsOf 67)) := by kernel_rfl
  have hp : Tryz.prog.stoodInHeld 67 = false := by kernel_rfl
  rw [run_neq_struct, show (10000 : Nat) = 9999 + 1 from rfl, run_equalIn_agg X 9999 67 _ _ hS hp]
  have u3 := Tryz.underlying9
  have z3 : Tryz.prog.cellsOf 9 = 1 := by kernel_rfl
  simp only [Program.fieldsOf, Tryz.underlying67]
  go_simp
  cases h1 : (S1.toList == S2.toList) <;> cases h2 : (T1.toList == T2.toList) <;> simp_all
theorem grd67 : Tryz.prog.eqGuardType Tryz.prog.depth 67 = false := by kernel_rfl
set_option maxRecDepth 20000 in
set_option maxHeartbeats 1000000 in
theorem rsameAttrs_any (a b : List Atr) (aa ba : Option Addr) (an bn ac bc : Nat) (han : a.length = an) (hbn : b.length = bn) (q : Bool) (hq : q = true ↔ a = b) (ha1 : an ≤ 1000000) (hb1 : bn ≤ 1000000) (w : World) (ha : AtsAt (fun k => k < w.heap.size) w aa a) (hb : AtsAt (fun k => k < w.heap.size) w ba b) :
    Calls Tryz.prog 53 #[.slice aa an ac, .slice ba bn bc] w fun e w' => e = .returned (.bool q) ∧ Kept (fun k => k < w.heap.size) w w' := by
  have HA : Hid (AtsAt (fun k => k < w.heap.size) w aa a) := ha
  have HB : Hid (AtsAt (fun k => k < w.heap.size) w ba b) := hb
  have HAN : Hid (a.length = an) := han
  have HBN : Hid (b.length = bn) := hbn
  have HQ : Hid (q = true ↔ a = b) := hq
  clear ha hb han hbn hq
  by_cases hl : an = bn
  · subst hl
    go_enter Tryz.func53, Tryz.ntmps53
    go_upto_region 4 with fail
    go_loopg [5] an (fun gh v wr => ∃ k : Nat, gh = an - k ∧ k ≤ an ∧ v = .int .i64 (k : Int) ∧ a.take k = b.take k ∧ Kept (fun k => k < w.heap.size) w wr)
    case atStart => exact ⟨0, rfl, Nat.zero_le _, rfl, rfl, Kept.refl _ _⟩
    case round =>
      obtain ⟨k, hgk, hk, rfl, heq, hKk⟩ := hrel
      have HKk : Hid (Kept (fun k => k < w.heap.size) w wr) := hKk
      have HEQ : Hid (a.take k = b.take k) := heq
      clear heq
      by_cases hlt : k < an
      · have hka : k < a.length := by rw [HAN.out]; exact hlt
        have hkb : k < b.length := by rw [HBN.out]; exact hlt
        obtain ⟨g1, o1, rfl, hg1, d1, e1⟩ := HA.out k hka
        obtain ⟨g2, o2, rfl, hg2, d2, e2⟩ := HB.out k hkb
        have d1' := (hKk.cell (p := ⟨g1, o1 + k * 2, none⟩) hg1).trans d1
        have e1' := (hKk.cell (p := ⟨g1, o1 + k * 2 + 1, none⟩) hg1).trans e1
        have d2' := (hKk.cell (p := ⟨g2, o2 + k * 2, none⟩) hg2).trans d2
        have e2' := (hKk.cell (p := ⟨g2, o2 + k * 2 + 1, none⟩) hg2).trans e2
        have heq := fun X => neq67 ⟨a[k].name.toArray⟩ ⟨a[k].value.toArray⟩ ⟨b[k].name.toArray⟩ ⟨b[k].value.toArray⟩ X
        simp only [ByteArray.toList_eq] at heq
        have hg67 := grd67
        unfold sv at d1' e1' d2' e2'
        obtain ⟨x1, hx1⟩ : ∃ x : ByteArray, (⟨a[k].name.toArray⟩ : ByteArray) = x := ⟨_, rfl⟩
        obtain ⟨x2, hx2⟩ : ∃ x : ByteArray, (⟨a[k].value.toArray⟩ : ByteArray) = x := ⟨_, rfl⟩
        obtain ⟨y1, hy1⟩ : ∃ x : ByteArray, (⟨b[k].name.toArray⟩ : ByteArray) = x := ⟨_, rfl⟩
        obtain ⟨y2, hy2⟩ : ∃ x : ByteArray, (⟨b[k].value.toArray⟩ : ByteArray) = x := ⟨_, rfl⟩
        obtain ⟨r, hr⟩ : ∃ r, (!((a[k].name == b[k].name) && (a[k].value == b[k].value))) = r := ⟨_, rfl⟩
        have HR : Hid ((!((a[k].name == b[k].name) && (a[k].value == b[k].value))) = r) := hr
        have heq' : ∀ X, (binOp .neq 67 (.agg #[.string x1, .string x2]) (.agg #[.string y1, .string y2])).run Tryz.prog X = .ok (.bool r) X := by rw [← hr, ← hx1, ← hx2, ← hy1, ← hy2]; exact heq
        rw [hx1] at d1'
        rw [hx2] at e1'
        rw [hy1] at d2'
        rw [hy2] at e2'
        clear hx1 hx2 hy1 hy2 d1 e1 d2 e2 hKk heq hr
        cases r with
        | false =>
          have HAB : Hid (a[k] = b[k]) := by
            have := HR.out
            simp at this
            exact (show Hid _ from (by cases h1 : a[k]; cases h2 : b[k]; simp_all))
          go_upto_region 6 with fail
          go_quiet (fail)
          go_wp2
          go_roundg (an - (k + 1))
          case rel =>
            refine ⟨k + 1, rfl, by omega, by go_num, ?_, HKk.out.drewN _⟩
            rw [List.take_succ_eq_append_getElem hka, List.take_succ_eq_append_getElem hkb, HEQ.out, HAB.out]
          case measure => omega
        | true =>
          have hq : q = false := by
            refine Bool.eq_false_iff.2 fun hc => ?_
            have c := HQ.out.1 hc
            subst c
            have := HR.out
            simp at this
          subst hq
          go_upto_region 6 with fail
          go_quiet (fail)
          go_wp2
          go_ret
          exact ⟨rfl, HKk.out.drewN _⟩
      · have hkn : an = k := by omega
        subst hkn
        have hq : q = true := by
          refine HQ.out.2 ?_
          have := HEQ.out
          rw [List.take_of_length_le (by rw [HAN.out]; exact Nat.le_refl _), List.take_of_length_le (by rw [HBN.out]; exact Nat.le_refl _)] at this
          exact this
        subst hq
        clear hKk
        go_wp2
        go_ret
        exact ⟨rfl, HKk.out⟩
  · have e1 : ((an : Int) != (bn : Int)) = true := by simp; omega
    have HNE : Hid (an ≠ bn) := hl
    clear hl
    have hq : q = false := by
      refine Bool.eq_false_iff.2 fun hc => ?_
      have c := HQ.out.1 hc
      subst c
      exact HNE.out (HAN.out.symm.trans HBN.out)
    subst hq
    go_enter Tryz.func53, Tryz.ntmps53
    go_wp2
    go_ret
    exact ⟨rfl, Kept.refl _ _⟩
end Go.Proofs.YthhoicmfmfeehaaGreat

namespace Go.Proofs.YthhoicmfmfeehaaGreat
open Go.RowKit Go.Sort
set_option linter.unusedVariables false
set_option maxRecDepth 20000 in
theorem slot_none (K : Nat → Prop) (p : Nat) (M : Dm) (i : Int) (w : World) (h : DX K w p M) (hi : i < 0 ∨ (M.n : Int) ≤ i) (hn : M.n ≤ 1000000) :
    Calls Tryz.prog 55 #[.pointer (some ⟨p, 0, none⟩), .int .i64 i] w fun e w' => e = .returned (.int .i64 (-1)) ∧ w' = w := by
  obtain ⟨ga, cap, hY⟩ := h
  have r := at_no p M.n cap ga i w hY.c1 hi (by omega)
  clear hY hi
  go_enter Tryz.func55, Tryz.ntmps55
  go_wp2_with (go_at_call 57; refine r.mono ?_; rintro e1 w3 ⟨rfl, hw3⟩; replace hw3 := hw3.symm; subst hw3)
  go_ret
  exact ⟨rfl, rfl⟩
set_option maxRecDepth 20000 in
theorem given_none (K : Nat → Prop) (p : Nat) (M : Dm) (i : Int) (w : World) (h : DX K w p M) (hi : i < 0 ∨ (M.n : Int) ≤ i) (hn : M.n ≤ 1000000) :
    Calls Tryz.prog 32 #[.pointer (some ⟨p, 0, none⟩), .int .i64 i] w fun e w' => e = .returned (.slice none 0 0) ∧ w' = w := by
  obtain ⟨ga, cap, hY⟩ := h
  have r := at_no p M.n cap ga i w hY.c1 hi (by omega)
  clear hY hi
  go_enter Tryz.func32, Tryz.ntmps32
  go_wp2_with (go_at_call 57; refine r.mono ?_; rintro e1 w3 ⟨rfl, hw3⟩; replace hw3 := hw3.symm; subst hw3)
  go_ret
  exact ⟨rfl, rfl⟩
set_option maxRecDepth 20000 in
theorem given_in (K : Nat → Prop) (p i : Nat) (M : Dm) (G : Nat → List Nat) (w : World) (h : DX K w p M) (hW : WF M.n M.gf G) (hi : i < M.n) (hn : M.n ≤ 1000000) :
    Calls Tryz.prog 32 #[.pointer (some ⟨p, 0, none⟩), .int .i64 (i : Int)] w fun e w' => ∃ ao c, e = .returned (.slice ao (G i).length c) ∧ OwnZ (fun k => k < w.heap.size) w' 3 1 ao (G i).length c (ivs (G i)) ∧ Kept (fun k => k < w.heap.size) w w' := by
  obtain ⟨ga, cap, hY⟩ := h
  obtain ⟨g, rfl, -, -, -⟩ := hY.at (by omega)
  have r := at_yes p g M.n cap i w hY.c1 hi (by omega)
  have rg := rowG K p g cap i M G w hY hW hi hn
  clear hY hW
  go_enter Tryz.func32, Tryz.ntmps32
  go_wp2_with (first | (go_at_call 57; refine r.mono ?_; rintro e1 w3 ⟨rfl, hw3⟩; replace hw3 := hw3.symm; subst hw3) | (go_at_call 75; refine (gifts_any _ _).mono ?_; rintro e w2 ⟨rfl, hw2⟩; replace hw2 := hw2.symm; subst hw2) | (go_at_call 59; refine rg.mono ?_; rintro e1 w4 ⟨ao, c, rfl, hO, hK⟩))
  go_ret
  exact ⟨ao, c, rfl, hO, hK⟩
end Go.Proofs.YthhoicmfmfeehaaGreat

namespace Go.Proofs.YthhoicmfmfeehaaGreat
open Go.RowKit
set_option linter.unusedVariables false
section
variable {K K' : Nat → Prop} {w w' : World} {p : Nat} {M : Dm} {R G : Nat → List Nat} {A : RA}
theorem DY.move {ga : Option Addr} {cap : Nat} (h : DY K w p M ga cap) (hb : ∀ g, g < w.heap.size → ¬ K g → w'.heap[g]? = w.heap[g]?) (hs : ∀ k, k < w.heap.size → K' k → K k) (hl : ∀ k, K' k → k < w'.heap.size) : DY K' w' p M ga cap := by
  obtain ⟨h1, h2, h3, xs, aa, ac, ho, hx, ha, hsp⟩ := h
  have hp := lt_block h3
  have hoK : ∀ g, blkOf ga g → g < w.heap.size ∧ ¬ K g := fun g hg => ⟨(ho.out hg).2, fun hk => (ho.out hg).1 (.inl hk)⟩
  have haK : ∀ i, i < M.n → ∀ g, blkOf (aa i) g → g < w.heap.size ∧ ¬ K g := fun i hi g hg => ⟨((ha i hi).out hg).2, fun hk => ((ha i hi).out hg).1 (.inl hk)⟩
  refine ⟨hl, fun hh => h2 (hs p hp hh), by rw [hb p hp h2]; exact h3, xs, aa, ac, OwnZ.to ho (fun g hg hh => ?_) (fun g hg => hb g (hoK g hg).1 (hoK g hg).2), hx, fun i hi => OwnZ.to (ha i hi) (fun g hg hh => ?_) (fun g hg => hb g (haK i hi g hg).1 (haK i hi g hg).2), hsp⟩
  · rcases hh with hh | hh
    · exact (hoK g hg).2 (hs g (hoK g hg).1 hh)
    · exact (ho.out hg).1 (.inr hh)
  · rcases hh with hh | hh
    · exact (haK i hi g hg).2 (hs g (haK i hi g hg).1 hh)
    · exact ((ha i hi).out hg).1 (.inr hh)
theorem DX.move (h : DX K w p M) (hb : ∀ g, g < w.heap.size → ¬ K g → w'.heap[g]? = w.heap[g]?) (hs : ∀ k, k < w.heap.size → K' k → K k) (hl : ∀ k, K' k → k < w'.heap.size) : DX K' w' p M := by
  obtain ⟨ga, cap, h⟩ := h
  exact ⟨ga, cap, h.move hb hs hl⟩
theorem RY.move (h : RY K w p M R G A) (hb : ∀ g, g < w.heap.size → ¬ K g → w'.heap[g]? = w.heap[g]?) (hz : w.heap.size ≤ w'.heap.size) (hs : ∀ k, k < w.heap.size → K' k → K k) (hl : ∀ k, K' k → k < w'.heap.size) : RY K' w' p M R G A := by
  have hp := h.plt
  have bad : ∀ g, g < w.heap.size → ¬ A.bad K p M.n g → ¬ A.bad K' p M.n g := fun g hg hb hb' => by
    rcases hb' with h1 | h1
    · exact hb (.inl (hs g hg h1))
    · exact hb (.inr h1)
  obtain ⟨xs, ho, hx⟩ := h.nown
  obtain ⟨ys, hq, hy⟩ := h.qown
  have hoK : ∀ g, blkOf A.na g → g < w.heap.size ∧ ¬ K g := fun g hg => ⟨(ho.out hg).2, fun hk => (ho.out hg).1 (.inl hk)⟩
  have hqK : ∀ g, blkOf A.qa g → g < w.heap.size ∧ ¬ K g := fun g hg => ⟨(hq.out hg).2, fun hk => (hq.out hg).1 (.inl hk)⟩
  have hgK : ∀ i, i < M.n → ∀ g, blkOf (A.ga i) g → g < w.heap.size ∧ ¬ K g := fun i hi g hg => ⟨((h.gown i hi).out hg).2, fun hk => ((h.gown i hi).out hg).1 (.inl hk)⟩
  refine ⟨hl, fun hh => h.pk (hs p hp hh), by rw [hb p hp h.pk]; exact h.blk, ⟨xs, OwnZ.to ho (fun g hg hh => ?_) (fun g hg => hb g (hoK g hg).1 (hoK g hg).2), hx⟩, ⟨ys, OwnZ.to hq (fun g hg hh => ?_) (fun g hg => hb g (hqK g hg).1 (hqK g hg).2), hy⟩,
    fun i hi => OwnZ.to (h.gown i hi) (fun g hg hh => ?_) (fun g hg => hb g (hgK i hi g hg).1 (hgK i hi g hg).2), h.gsep, fun i hi => (h.ats i hi).to (fun g hg => ⟨Nat.lt_of_lt_of_le hg.1 hz, bad g hg.1 hg.2⟩) (fun g hg => hb g hg.1 fun hk => hg.2 (.inl hk)), h.acl,
    fun i hi => (h.kid i hi).to (fun g hg => ⟨Nat.lt_of_lt_of_le hg.1 hz, bad g hg.1 hg.2⟩) (fun g hg => hb g hg.1 fun hk => hg.2 (.inl hk)), h.kcl⟩
  · rcases hh with hh | hh
    · exact (hoK g hg).2 (hs g (hoK g hg).1 hh)
    · exact (ho.out hg).1 (.inr hh)
  · rcases hh with hh | hh
    · exact (hqK g hg).2 (hs g (hqK g hg).1 hh)
    · exact (hq.out hg).1 (.inr hh)
  · rcases hh with hh | hh
    · exact (hgK i hi g hg).2 (hs g (hgK i hi g hg).1 hh)
    · exact ((h.gown i hi).out hg).1 (.inr hh)
theorem RX.move (h : RX K w p M R G) (hb : ∀ g, g < w.heap.size → ¬ K g → w'.heap[g]? = w.heap[g]?) (hz : w.heap.size ≤ w'.heap.size) (hs : ∀ k, k < w.heap.size → K' k → K k) (hl : ∀ k, K' k → k < w'.heap.size) : RX K' w' p M R G := by
  obtain ⟨A, h⟩ := h
  exact ⟨A, h.move hb hz hs hl⟩
end
/-- What the program's document must not touch: K, and the document's own E. -/
def TK (K E : Nat → Prop) (k : Nat) : Prop := K k ∨ E k
/-- What the document's own must not touch: K, and all that is not its own. -/
def TL (K E : Nat → Prop) (w : World) (k : Nat) : Prop := K k ∨ (k < w.heap.size ∧ ¬ E k)
/-- BOTH DOCUMENTS, apart from K. -/
structure Two (K E : Nat → Prop) (w : World) (p r : Nat) (M : Dm) (R G : Nat → List Nat) : Prop where
  d : DX (TK K E) w p M
  r : RX (TL K E w) w r M R G
  nk : ∀ k, E k → ¬ K k
theorem Two.lt {K E : Nat → Prop} {w : World} {p r : Nat} {M : Dm} {R G : Nat → List Nat} (h : Two K E w p r M R G) : ∀ k, K k → k < w.heap.size := fun k hk => h.d.lt k (.inl hk)
/-- Behind what only makes. -/
theorem Two.kept {K E : Nat → Prop} {w w' : World} {p r : Nat} {M : Dm} {R G : Nat → List Nat} (h : Two K E w p r M R G) (hk : Kept (fun k => k < w.heap.size) w w') : Two K E w' p r M R G :=
  ⟨h.d.kept hk, h.r.move (fun g hg _ => hk.block g hg) hk.size (fun k hl hh => by
    rcases hh with hh | hh
    · exact .inl hh
    · exact .inr ⟨hl, hh.2⟩) (fun k hh => by
    rcases hh with hh | hh
    · exact Nat.lt_of_lt_of_le (h.lt k hh) hk.size
    · exact hh.1), h.nk⟩
/-- Behind a call on the program's document. -/
theorem Two.byD {K E : Nat → Prop} {w w' : World} {p r : Nat} {M M' : Dm} {R G : Nat → List Nat} (h : Two K E w p r M R G) (hk : Kept (TK K E) w w') (hd : DX (TK K E) w' p M') : DX (TK K E) w' p M' ∧ RX (TL K E w') w' r M R G ∧ Kept K w w' := by
  refine ⟨hd, h.r.move (fun g hg hn => hk.block g ?_) hk.size (fun k hl hh => ?_) (fun k hh => ?_), hk.mono fun k hk => .inl hk⟩
  · by_cases c : E g
    · exact .inr c
    · exact absurd (.inr ⟨hg, c⟩) hn
  · rcases hh with hh | hh
    · exact .inl hh
    · exact .inr ⟨hl, hh.2⟩
  · rcases hh with hh | hh
    · exact Nat.lt_of_lt_of_le (h.lt k hh) hk.size
    · exact hh.1
/-- Behind a call on the document's own. -/
theorem Two.byR {K E : Nat → Prop} {w w' : World} {p r : Nat} {M M' : Dm} {R R' G G' : Nat → List Nat} (hd : DX (TK K E) w p M') (hnk : ∀ k, E k → ¬ K k) (hk : Kept (TL K E w) w w') (hr : RX (TL K E w) w' r M' R' G') :
    Two K (fun k => k < w'.heap.size ∧ ¬ K k ∧ (E k ∨ w.heap.size ≤ k)) w' p r M' R' G' ∧ Kept K w w' := by
  refine ⟨⟨hd.move (fun g hg hn => hk.block g (.inr ⟨hg, fun he => hn (.inr he)⟩)) (fun k hl hh => ?_) (fun k hh => ?_), hr.more (Kept.refl _ _) (fun k hh => ?_) (fun k hh => ?_), fun k hh => hh.2.1⟩, hk.mono fun k hk => .inl hk⟩
  · rcases hh with hh | ⟨-, -, hh | hh⟩
    · exact .inl hh
    · exact .inr hh
    · omega
  · rcases hh with hh | hh
    · exact Nat.lt_of_lt_of_le (hd.lt k (.inl hh)) hk.size
    · exact hh.1
  · rcases hh with hh | ⟨h1, h2⟩
    · exact .inl (.inl hh)
    · by_cases ck : K k
      · exact .inl (.inl ck)
      · refine .inl (.inr ⟨?_, fun he => h2 ⟨h1, ck, .inl he⟩⟩)
        exact Nat.lt_of_not_le fun hw => h2 ⟨h1, ck, .inr hw⟩
  · rcases hh with hh | hh
    · exact Nat.lt_of_lt_of_le (hd.lt k (.inl hh)) hk.size
    · exact hh.1
end Go.Proofs.YthhoicmfmfeehaaGreat
