/-
  slices.Equal, Index and Contains of integers; a map of slices in memory.
-/
import Derived.Test.YtfeinppedejlpaaGreatKE01
import Derived.Deep.QuietTactic
import Derived.Maps.OwnSet
import Derived.Maps.Views
namespace Go.Proofs.YtfeinppedejlpaaGreat
set_option maxHeartbeats 8000000
set_option maxRecDepth 100000
open Go.RowKit
set_option linter.unusedVariables false
theorem zpe (a b : List Nat) (aa ba : Option Addr) (an bn ac bc : Nat) (han : a.length = an) (hbn : b.length = bn) (ha1 : an <= 1000000) (hb1 : bn <= 1000000) (w : World) (ha : Zad (fun k => k < w.heap.size) w aa a) (hb : Zad (fun k => k < w.heap.size) w ba b) :
  Calls Tryz.prog 107 #[.slice aa an ac, .slice ba bn bc] w fun e w' => e = .returned (.bool (decide (a = b))) /\ Kept (fun k => k < w.heap.size) w w' := by
 have HA : Hid (Zad (fun k => k < w.heap.size) w aa a) := ha
 have HB : Hid (Zad (fun k => k < w.heap.size) w ba b) := hb
 have HAN : Hid (a.length = an) := han
 have HBN : Hid (b.length = bn) := hbn
 obtain ⟨q, hq⟩ : ∃ q, decide (a = b) = q := ⟨_, rfl⟩
 have HQ : Hid (decide (a = b) = q) := hq
 rw [hq]
 clear ha hb han hbn hq
 by_cases hl : an = bn
 ·subst hl
  go_enter Tryz.func107, Tryz.ntmps107
  go_upto_region 4 with fail
  go_loopg [13] an (fun gh v wr => ∃ k : Nat, gh = an - k /\ k <= an /\ v = .int .i64 (k : Int) /\ a.take k = b.take k /\ Kept (fun k => k < w.heap.size) w wr)
  case atStart => exact ⟨0, rfl, Nat.zero_le _, rfl, rfl, Kept.refl _ _⟩
  case round =>
   obtain ⟨k, hgk, hk, rfl, heq, hKk⟩ := hrel
   have HKk : Hid (Kept (fun k => k < w.heap.size) w wr) := hKk
   have HEQ : Hid (a.take k = b.take k) := heq
   clear heq
   by_cases hlt : k < an
   ·have hka : k < a.length := by rw [HAN.out]; exact hlt
    have hkb : k < b.length := by rw [HBN.out]; exact hlt
    obtain ⟨g1, o1, rfl, hg1, d1⟩ := HA.out k hka
    obtain ⟨g2, o2, rfl, hg2, d2⟩ := HB.out k hkb
    obtain ⟨x, hx⟩ : ∃ x, a[k] = x := ⟨_, rfl⟩
    obtain ⟨y, hy⟩ : ∃ y, b[k] = y := ⟨_, rfl⟩
    rw [hx] at d1
    rw [hy] at d2
    have d1' : wr.cell? ⟨g1, o1 + k, none⟩ = some (.int .i64 (x : Int)) := (hKk.cell (p := ⟨g1, o1 + k, none⟩) hg1).trans d1
    have d2' : wr.cell? ⟨g2, o2 + k, none⟩ = some (.int .i64 (y : Int)) := (hKk.cell (p := ⟨g2, o2 + k, none⟩) hg2).trans d2
    have HXE : Hid (a[k] = x) := hx
    have HYE : Hid (b[k] = y) := hy
    clear hx hy d1 d2 hKk
    by_cases e : x = y
    ·subst e
     have HXE2 : Hid (b[k] = x) := HYE
     go_upto_region 6 with fail
     go_quiet (fail)
     go_wp2
     go_roundg (an - (k + 1))
     case rel =>
      refine ⟨k + 1, rfl, by omega, by go_num, ?_, HKk.out.drewN _⟩
      rw [List.take_succ_eq_append_getElem hka, List.take_succ_eq_append_getElem hkb, HEQ.out, HXE.out, HXE2.out]
     case measure => omega
    ·have e1 : ((x : Int) != (y : Int)) = true := by simp; omega
     have HNE : Hid (x ≠ y) := e
     clear e
     have hq : q = false := by
      rw [<- HQ.out]
      refine decide_eq_false fun c => ?_
      subst c
      exact HNE.out (HXE.out.symm.trans HYE.out)
     subst hq
     go_upto_region 6 with fail
     go_quiet (fail)
     go_wp2
     go_ret
     exact ⟨rfl, HKk.out.drewN _⟩
   ·have hkn : an = k := by omega
    subst hkn
    have hq : q = true := by
     rw [<- HQ.out]
     refine decide_eq_true ?_
     have := HEQ.out
     rw [List.take_of_length_le (by rw [HAN.out]; exact Nat.le_refl _), List.take_of_length_le (by rw [HBN.out]; exact Nat.le_refl _)] at this
     exact this
    subst hq
    clear hKk
    go_wp2
    go_ret
    exact ⟨rfl, HKk.out⟩
 ·have e1 : ((an : Int) != (bn : Int)) = true := by simp; omega
  have HNE : Hid (an ≠ bn) := hl
  clear hl
  have hq : q = false := by
   rw [<- HQ.out]
   refine decide_eq_false fun c => ?_
   subst c
   exact HNE.out (HAN.out.symm.trans HBN.out)
  subst hq
  go_enter Tryz.func107, Tryz.ntmps107
  go_wp2
  go_ret
  exact ⟨rfl, Kept.refl _ _⟩
theorem zmj (l : List Nat) (aa : Option Addr) (n c : Nat) (hn : l.length = n) (hb : n <= 1000000) (x : Nat) (w : World) (ha : Zad (fun k => k < w.heap.size) w aa l) :
  Calls Tryz.prog 240 #[.slice aa n c, .int .i64 (x : Int)] w fun e w' => (∃ z : Int, e = .returned (.int .i64 z) /\ (0 <= z ↔ x ∈ l)) /\ w' = w := by
 have HA : Hid (Zad (fun k => k < w.heap.size) w aa l) := ha
 have HN : Hid (l.length = n) := hn
 clear ha hn
 go_enter Tryz.func240, Tryz.ntmps240
 go_upto_region 2 with fail
 go_loopg [8] n (fun gh v wr => ∃ k : Nat, gh = n - k /\ k <= n /\ v = .int .i64 (k : Int) /\ x ∉ l.take k /\ wr = w)
 case atStart => exact ⟨0, rfl, Nat.zero_le _, rfl, by simp, rfl⟩
 case round =>
  obtain ⟨k, hgk, hk, rfl, hno, rfl⟩ := hrel
  have HNO : Hid (x ∉ l.take k) := hno
  clear hno
  by_cases hlt : k < n
  ·have hkl : k < l.length := by rw [HN.out]; exact hlt
   obtain ⟨g, o, rfl, -, hc⟩ := HA.out k hkl
   obtain ⟨y, hy⟩ : ∃ y, l[k] = y := ⟨_, rfl⟩
   rw [hy] at hc
   have hc' : wr.cell? ⟨g, o + k, none⟩ = some (.int .i64 (y : Int)) := hc
   have HY : Hid (l[k] = y) := hy
   clear hy hc
   by_cases e : x = y
   ·subst e
    go_wp2
    go_ret
    exact ⟨⟨(k : Int), rfl, ⟨fun _ => by rw [<- HY.out]; exact List.getElem_mem _, fun _ => by omega⟩⟩, rfl⟩
   ·have e1 : ((x : Int) == (y : Int)) = false := by rw [beq_eq_false_iff_ne]; omega
    have e2 : (x == y) = false := by rw [beq_eq_false_iff_ne]; exact e
    go_wp2
    go_roundg (n - (k + 1))
    case rel =>
     refine ⟨k + 1, rfl, by omega, by go_num, ?_, rfl⟩
     rw [List.take_succ_eq_append_getElem hkl, HY.out]
     intro h
     rcases List.mem_append.1 h with h | h
     ·exact HNO.out h
     ·exact e (List.mem_singleton.1 h)
    case measure => omega
  ·go_wp2
   go_ret
   refine ⟨⟨-1, rfl, ⟨fun h => by omega, fun h => ?_⟩⟩, rfl⟩
   exact absurd h (by rw [<- List.take_of_length_le (l := l) (i := k) (by rw [HN.out]; omega)]; exact HNO.out)
theorem zhy (l : List Nat) (aa : Option Addr) (n c : Nat) (hn : l.length = n) (hb : n <= 1000000) (x : Nat) (w : World) (ha : Zad (fun k => k < w.heap.size) w aa l) :
  Calls Tryz.prog 186 #[.slice aa n c, .int .i64 (x : Int)] w fun e w' => e = .returned (.bool (decide (x ∈ l))) /\ w' = w := by
 have r := zmj l aa n c hn hb x w ha
 clear ha hn
 go_enter Tryz.func186, Tryz.ntmps186
 go_wp2_with fail
 refine r.mono ?_
 rintro e w1 ⟨⟨z, rfl, hz⟩, hw⟩
 replace hw := hw.symm
 subst hw
 clear r
 by_cases h : x ∈ l
 ·have h0 : decide (z >= 0) = true := decide_eq_true (hz.2 h)
  clear hz
  go_wp2
  go_ret
  exact ⟨by rw [decide_eq_true h]; rfl, rfl⟩
 ·have h0 : decide (z >= 0) = false := decide_eq_false (fun h' => h (hz.1 h'))
  clear hz
  go_wp2
  go_ret
  exact ⟨by rw [decide_eq_false h]; rfl, rfl⟩
def RV (v : Value) : Option (DataW Value × List MemPlace) := some (.held v, [])
theorem zvq : Go.Maps.Keyed Tryz.prog 3 := Go.Maps.int_keyed Tryz.underlying3
theorem zuh (w : World) : (zeroValue 33).run Tryz.prog w = .ok (.slice none 0 0) w := by kernel_rfl
def Zew (w : World) (mb n : Nat) (F : Nat -> Value) : Prop :=
 ∃ D : DataW Value, w.ownsMap Tryz.prog 3 RV mb n D /\ Go.Maps.IsMap D /\ ∀ i : Nat, i <= 1000000 -> D.atKey (.int .i64 (i : Int)) (.held (.slice none 0 0)) = .held (F i)
end Go.Proofs.YtfeinppedejlpaaGreat
