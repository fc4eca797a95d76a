/-
  The document's own SameAttrs.
-/
import Derived.Test.YtfeinppedejlpaaGreatNW32
import Derived.Laws.StructEq
namespace Go.Proofs.YtfeinppedejlpaaGreat
set_option maxHeartbeats 8000000
set_option maxRecDepth 100000
open Go.RowKit Go.Sort
set_option linter.unusedVariables false
theorem zsa (S1 T1 S2 T2 : ByteArray) (X : World) : (binOp .neq 108 (.agg #[.string S1, .string T1]) (.agg #[.string S2, .string T2])).run Tryz.prog X = .ok (.bool (!((S1.toList == S2.toList) && (T1.toList == T2.toList)))) X := by
 have hS : Tryz.prog.underlying 108 = some (.struct (Tryz.prog.fieldsOf 108)) := by kernel_rfl
 have hp : Tryz.prog.stoodInHeld 108 = false := by kernel_rfl
 rw [run_neq_struct, show (10000 : Nat) = 9999 + 1 from rfl, run_equalIn_agg X 9999 108 _ _ hS hp]
 have u3 := Tryz.underlying9
 have z3 : Tryz.prog.cellsOf 9 = 1 := by kernel_rfl
 simp only [Program.fieldsOf, Tryz.underlying108]
 go_simp
 cases h1 : (S1.toList == S2.toList) <;> cases h2 : (T1.toList == T2.toList) <;> simp_all
theorem zsf : Tryz.prog.eqGuardType Tryz.prog.depth 108 = false := by kernel_rfl
theorem zdr (a b : List Atr) (aa ba : Option Addr) (an bn ac bc : Nat) (han : a.length = an) (hbn : b.length = bn) (q : Bool) (hq : q = true ↔ a = b) (ha1 : an <= 1000000) (hb1 : bn <= 1000000) (w : World) (ha : Zag (fun k => k < w.heap.size) w aa a) (hb : Zag (fun k => k < w.heap.size) w ba b) :
  Calls Tryz.prog 122 #[.slice aa an ac, .slice ba bn bc] w fun e w' => e = .returned (.bool q) /\ Kept (fun k => k < w.heap.size) w w' := by
 have HA : Hid (Zag (fun k => k < w.heap.size) w aa a) := ha
 have HB : Hid (Zag (fun k => k < w.heap.size) w ba b) := hb
 have HAN : Hid (a.length = an) := han
 have HBN : Hid (b.length = bn) := hbn
 have HQ : Hid (q = true ↔ a = b) := hq
 clear ha hb han hbn hq
 by_cases hl : an = bn
 ·subst hl
  go_enter Tryz.func122, Tryz.ntmps122
  go_upto_region 4 with fail
  go_loopg [5] an (fun gh v wr => ∃ k : Nat, gh = an - k /\ k <= an /\ v = .int .i64 (k : Int) /\ a.take k = b.take k /\ Kept (fun k => k < w.heap.size) w wr)
  case atStart => exact ⟨0, rfl, Nat.zero_le _, rfl, rfl, Kept.refl _ _⟩
  case round =>
   obtain ⟨k, hgk, hk, rfl, heq, hKk⟩ := hrel
   have HKk : Hid (Kept (fun k => k < w.heap.size) w wr) := hKk
   have HEQ : Hid (a.take k = b.take k) := heq
   clear heq
   by_cases hlt : k < an
   ·have hka : k < a.length := by rw [HAN.out]; exact hlt
    have hkb : k < b.length := by rw [HBN.out]; exact hlt
    obtain ⟨g1, o1, rfl, hg1, d1, e1⟩ := HA.out k hka
    obtain ⟨g2, o2, rfl, hg2, d2, e2⟩ := HB.out k hkb
    have d1' := (hKk.cell (p := ⟨g1, o1 + k * 2, none⟩) hg1).trans d1
    have e1' := (hKk.cell (p := ⟨g1, o1 + k * 2 + 1, none⟩) hg1).trans e1
    have d2' := (hKk.cell (p := ⟨g2, o2 + k * 2, none⟩) hg2).trans d2
    have e2' := (hKk.cell (p := ⟨g2, o2 + k * 2 + 1, none⟩) hg2).trans e2
    have heq := fun X => zsa ⟨a[k].name.toArray⟩ ⟨a[k].value.toArray⟩ ⟨b[k].name.toArray⟩ ⟨b[k].value.toArray⟩ X
    simp only [ByteArray.toList_eq] at heq
    have hg67 := zsf
    unfold sv at d1' e1' d2' e2'
    obtain ⟨x1, hx1⟩ : ∃ x : ByteArray, (⟨a[k].name.toArray⟩ : ByteArray) = x := ⟨_, rfl⟩
    obtain ⟨x2, hx2⟩ : ∃ x : ByteArray, (⟨a[k].value.toArray⟩ : ByteArray) = x := ⟨_, rfl⟩
    obtain ⟨y1, hy1⟩ : ∃ x : ByteArray, (⟨b[k].name.toArray⟩ : ByteArray) = x := ⟨_, rfl⟩
    obtain ⟨y2, hy2⟩ : ∃ x : ByteArray, (⟨b[k].value.toArray⟩ : ByteArray) = x := ⟨_, rfl⟩
    obtain ⟨r, hr⟩ : ∃ r, (!((a[k].name == b[k].name) && (a[k].value == b[k].value))) = r := ⟨_, rfl⟩
    have HR : Hid ((!((a[k].name == b[k].name) && (a[k].value == b[k].value))) = r) := hr
    have heq' : ∀ X, (binOp .neq 108 (.agg #[.string x1, .string x2]) (.agg #[.string y1, .string y2])).run Tryz.prog X = .ok (.bool r) X := by rw [<- hr, <- hx1, <- hx2, <- hy1, <- hy2]; exact heq
    rw [hx1] at d1'
    rw [hx2] at e1'
    rw [hy1] at d2'
    rw [hy2] at e2'
    clear hx1 hx2 hy1 hy2 d1 e1 d2 e2 hKk heq hr
    cases r with
    | false =>
     have HAB : Hid (a[k] = b[k]) := by
      have := HR.out
      simp at this
      exact (show Hid _ from (by cases h1 : a[k]; cases h2 : b[k]; simp_all))
     go_upto_region 6 with fail
     go_quiet (fail)
     go_wp2
     go_roundg (an - (k + 1))
     case rel =>
      refine ⟨k + 1, rfl, by omega, by go_num, ?_, HKk.out.drewN _⟩
      rw [List.take_succ_eq_append_getElem hka, List.take_succ_eq_append_getElem hkb, HEQ.out, HAB.out]
     case measure => omega
    | true =>
     have hq : q = false := by
      refine Bool.eq_false_iff.2 fun hc => ?_
      have c := HQ.out.1 hc
      subst c
      have := HR.out
      simp at this
     subst hq
     go_upto_region 6 with fail
     go_quiet (fail)
     go_wp2
     go_ret
     exact ⟨rfl, HKk.out.drewN _⟩
   ·have hkn : an = k := by omega
    subst hkn
    have hq : q = true := by
     refine HQ.out.2 ?_
     have := HEQ.out
     rw [List.take_of_length_le (by rw [HAN.out]; exact Nat.le_refl _), List.take_of_length_le (by rw [HBN.out]; exact Nat.le_refl _)] at this
     exact this
    subst hq
    clear hKk
    go_wp2
    go_ret
    exact ⟨rfl, HKk.out⟩
 ·have e1 : ((an : Int) != (bn : Int)) = true := by simp; omega
  have HNE : Hid (an ≠ bn) := hl
  clear hl
  have hq : q = false := by
   refine Bool.eq_false_iff.2 fun hc => ?_
   have c := HQ.out.1 hc
   subst c
   exact HNE.out (HAN.out.symm.trans HBN.out)
  subst hq
  go_enter Tryz.func122, Tryz.ntmps122
  go_wp2
  go_ret
  exact ⟨rfl, Kept.refl _ _⟩
end Go.Proofs.YtfeinppedejlpaaGreat
