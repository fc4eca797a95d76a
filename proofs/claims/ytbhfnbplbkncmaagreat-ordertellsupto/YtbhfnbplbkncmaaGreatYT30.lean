/-
  The document's own Node.
  The document's own SameInts, SameAttrs.
-/
import Derived.Test.YtbhfnbplbkncmaaGreatZ28
namespace Go.Proofs.YtbhfnbplbkncmaaGreat
open Go.RowKit Go.Sort
set_option linter.unusedVariables false
end Go.Proofs.YtbhfnbplbkncmaaGreat

namespace Go.Proofs.YtbhfnbplbkncmaaGreat
open Go.RowKit Go.Sort
set_option linter.unusedVariables false
set_option maxRecDepth 20000 in
set_option maxHeartbeats 1000000 in
theorem rsameInts_any (a b : List Nat) (aa ba : Option Addr) (an bn ac bc : Nat) (han : a.length = an) (hbn : b.length = bn) (ha1 : an ≤ 1000000) (hb1 : bn ≤ 1000000) (w : World) (ha : IntsAt (fun k => k < w.heap.size) w aa a) (hb : IntsAt (fun k => k < w.heap.size) w ba b) :
    Calls Tryz.prog 31 #[.slice aa an ac, .slice ba bn bc] w fun e w' => e = .returned (.bool (decide (a = b))) ∧ Kept (fun k => k < w.heap.size) w w' := by
  have HA : Hid (IntsAt (fun k => k < w.heap.size) w aa a) := ha
  have HB : Hid (IntsAt (fun k => k < w.heap.size) w ba b) := hb
  have HAN : Hid (a.length = an) := han
  have HBN : Hid (b.length = bn) := hbn
  obtain ⟨q, hq⟩ : ∃ q, decide (a = b) = q := ⟨_, rfl⟩
  have HQ : Hid (decide (a = b) = q) := hq
  rw [hq]
  clear ha hb han hbn hq
  by_cases hl : an = bn
  · subst hl
    go_enter Tryz.func31, Tryz.ntmps31
    go_upto_region 4 with fail
    go_loopg [5] an (fun gh v wr => ∃ k : Nat, gh = an - k ∧ k ≤ an ∧ v = .int .i64 (k : Int) ∧ a.take k = b.take k ∧ Kept (fun k => k < w.heap.size) w wr)
    case atStart => exact ⟨0, rfl, Nat.zero_le _, rfl, rfl, Kept.refl _ _⟩
    case round =>
      obtain ⟨k, hgk, hk, rfl, heq, hKk⟩ := hrel
      have HKk : Hid (Kept (fun k => k < w.heap.size) w wr) := hKk
      have HEQ : Hid (a.take k = b.take k) := heq
      clear heq
      by_cases hlt : k < an
      · have hka : k < a.length := by rw [HAN.out]; exact hlt
        have hkb : k < b.length := by rw [HBN.out]; exact hlt
        obtain ⟨g1, o1, rfl, hg1, d1⟩ := HA.out k hka
        obtain ⟨g2, o2, rfl, hg2, d2⟩ := HB.out k hkb
        obtain ⟨x, hx⟩ : ∃ x, a[k] = x := ⟨_, rfl⟩
        obtain ⟨y, hy⟩ : ∃ y, b[k] = y := ⟨_, rfl⟩
        rw [hx] at d1
        rw [hy] at d2
        have d1' : wr.cell? ⟨g1, o1 + k, none⟩ = some (.int .i64 (x : Int)) := (hKk.cell (p := ⟨g1, o1 + k, none⟩) hg1).trans d1
        have d2' : wr.cell? ⟨g2, o2 + k, none⟩ = some (.int .i64 (y : Int)) := (hKk.cell (p := ⟨g2, o2 + k, none⟩) hg2).trans d2
        have HXE : Hid (a[k] = x) := hx
        have HYE : Hid (b[k] = y) := hy
        clear hx hy d1 d2 hKk
        by_cases e : x = y
        · subst e
          have HXE2 : Hid (b[k] = x) := HYE
          go_upto_region 6 with fail
          go_quiet (fail)
          go_wp2
          go_roundg (an - (k + 1))
          case rel =>
            refine ⟨k + 1, rfl, by omega, by go_num, ?_, HKk.out.drewN _⟩
            rw [List.take_succ_eq_append_getElem hka, List.take_succ_eq_append_getElem hkb, HEQ.out, HXE.out, HXE2.out]
          case measure => omega
        · have e1 : ((x : Int) != (y : Int)) = true := by simp; omega
          have HNE : Hid (x ≠ y) := e
          clear e
          have hq : q = false := by
            rw [← HQ.out]
            refine decide_eq_false fun c => ?_
            subst c
            exact HNE.out (HXE.out.symm.trans HYE.out)
          subst hq
          go_upto_region 6 with fail
          go_quiet (fail)
          go_wp2
          go_ret
          exact ⟨rfl, HKk.out.drewN _⟩
      · have hkn : an = k := by omega
        subst hkn
        have hq : q = true := by
          rw [← HQ.out]
          refine decide_eq_true ?_
          have := HEQ.out
          rw [List.take_of_length_le (by rw [HAN.out]; exact Nat.le_refl _), List.take_of_length_le (by rw [HBN.out]; exact Nat.le_refl _)] at this
          exact this
        subst hq
        clear hKk
        go_wp2
        go_ret
        exact ⟨rfl, HKk.out⟩
  · have e1 : ((an : Int) != (bn : Int)) = true := by simp; omega
    have HNE : Hid (an ≠ bn) := hl
    clear hl
    have hq : q = false := by
      rw [← HQ.out]
      refine decide_eq_false fun c => ?_
      subst c
      exact HNE.out (HAN.out.symm.trans HBN.out)
    subst hq
    go_enter Tryz.func31, Tryz.ntmps31
    go_wp2
    go_ret
    exact ⟨rfl, Kept.refl _ _⟩
end Go.Proofs.YtbhfnbplbkncmaaGreat
