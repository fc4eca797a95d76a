/-
  The walk of DomSets, where more comes in than is looked at.
-/
import Derived.Test.YtbbknbipppaemaaHf
import Derived.Test.YtbbknbipppaemaaCR
namespace Go.Proofs.Ytbbknbipppaemaa
open Go.RowKit
set_option linter.unusedVariables false

/-- How long the first attributes are. -/
def sumA (l : List Atr) : Nat → Nat
  | 0 => 0
  | i + 1 => sumA l i + (((l[i]?.map fun x => x.name.length).getD 0) + ((l[i]?.map fun x => x.value.length).getD 0))
theorem sumA_succ (l : List Atr) (i : Nat) (h : i < l.length) : sumA l (i + 1) = sumA l i + (l[i].name.length + l[i].value.length) := by
  show sumA l i + _ = _
  rw [List.getElem?_eq_getElem h]
  rfl
theorem sumA_mono (l : List Atr) : ∀ {j i : Nat}, i ≤ j → sumA l i ≤ sumA l j
  | 0, i, h => by
    have : i = 0 := by omega
    subst this
    exact Nat.le_refl _
  | j + 1, i, h => by
    by_cases c : i = j + 1
    · subst c; exact Nat.le_refl _
    · have := sumA_mono l (j := j) (i := i) (by omega)
      show _ ≤ sumA l j + _
      omega
theorem sumA_bound (l : List Atr) (hz : ∀ x ∈ l, x.name.length ≤ 140737488355328 ∧ x.value.length ≤ 140737488355328) : ∀ i, i ≤ l.length → sumA l i ≤ i * 281474976710656
  | 0, _ => Nat.zero_le _
  | i + 1, h => by
    have h1 := sumA_bound l hz i (by omega)
    have h2 := hz l[i] (List.getElem_mem (by omega))
    rw [sumA_succ l i (by omega)]
    omega
theorem wrap64_id {z : Int} (h1 : -9223372036854775808 ≤ z) (h2 : z ≤ 9223372036854775807) : wrap64 z = z := by
  unfold wrap64
  omega
theorem ba_size (x : List UInt8) : (⟨x.toArray⟩ : ByteArray).size = x.length := by
  show x.toArray.size = _
  simp

set_option maxRecDepth 20000 in
set_option maxHeartbeats 2000000 in
theorem sets_long (l : List Atr) (a : Option Addr) (len cap : Nat) (hln : l.length = len) (kz : Int) (V : ByteArray) (w : World) (hlm : len ≤ 9223372036854775807) (ha : AtsAt (fun k => k < w.heap.size) w a l) (hz : ∀ x ∈ l, x.name.length ≤ 140737488355328 ∧ x.value.length ≤ 140737488355328) (hV : V.size ≤ 140737488355328) (hb : 40 < len ∨ 500 < V.size ∨ 5000 < sumA l len) :
    Calls Try.prog 3 #[.slice a len cap, .int .u8 kz, .string V] w fun e w' => e = .returned (.bool true) ∧ Kept (fun k => k < w.heap.size) w w' := by
  have rk := fun m => known_any (w.drewN m)
  have HA : Hid (AtsAt (fun k => k < w.heap.size) w a l) := ha
  have HL : Hid (l.length = len) := hln
  have HZ : Hid (∀ x ∈ l, x.name.length ≤ 140737488355328 ∧ x.value.length ≤ 140737488355328) := hz
  clear ha hln hz
  go_enter Try.func3, Try.ntmps3
  go_upto_region 3 with fail
  go_loopg [7, 8] len (fun gh v7 v8 wr => ∃ (i : Nat) (z : Int) (m : Nat), gh = len - i ∧ i ≤ len ∧ v8 = .int .i64 (i : Int) ∧ v7 = .int .i64 z ∧ (len ≤ 40 → z = (sumA l i : Int)) ∧ wr = w.drewN m)
  case atStart => exact ⟨0, 0, 0, rfl, Nat.zero_le _, rfl, rfl, fun _ => rfl, rfl⟩
  case round =>
    obtain ⟨i, z, m, hgi, hi, rfl, rfl, hzz, rfl⟩ := hrel
    by_cases hlt : i < len
    · have hl : i < l.length := by rw [HL.out]; exact hlt
      obtain ⟨g, o, rfl, -, c0, c1⟩ := HA.out i hl
      have hzi := HZ.out l[i] (List.getElem_mem hl)
      have HS : Hid (sumA l (i + 1) = sumA l i + (l[i].name.length + l[i].value.length)) := sumA_succ l i hl
      have HSB : Hid (sumA l i ≤ i * 281474976710656) := sumA_bound l HZ.out i (by omega)
      obtain ⟨n1, h1⟩ : ∃ n1, l[i].name.length = n1 := ⟨_, rfl⟩
      obtain ⟨n2, h2⟩ : ∃ n2, l[i].value.length = n2 := ⟨_, rfl⟩
      obtain ⟨B1, hB1⟩ : ∃ B : ByteArray, ⟨l[i].name.toArray⟩ = B := ⟨_, rfl⟩
      obtain ⟨B2, hB2⟩ : ∃ B : ByteArray, ⟨l[i].value.toArray⟩ = B := ⟨_, rfl⟩
      have s1 : B1.size = n1 := by rw [← hB1, ba_size, h1]
      have s2 : B2.size = n2 := by rw [← hB2, ba_size, h2]
      have d0 : w.cell? ⟨g, o + i * 2, none⟩ = some (.string B1) := by rw [← hB1]; exact c0
      have d1 : w.cell? ⟨g, o + i * 2 + 1, none⟩ = some (.string B2) := by rw [← hB2]; exact c1
      have d2 : (w.drewN m).cell? ⟨g, o + i * 2, none⟩ = some (.string B1) := d0
      have d3 : (w.drewN m).cell? ⟨g, o + i * 2 + 1, none⟩ = some (.string B2) := d1
      rw [h1, h2] at HS hzi
      clear c0 c1 hB1 hB2 h1 h2
      go_upto_region 5 with fail
      go_quiet (fail)
      go_wp2
      go_roundg (len - (i + 1))
      case rel =>
        refine ⟨i + 1, _, _, rfl, by omega, by go_num, rfl, fun h40 => ?_, rfl⟩
        have hz1 := hzz h40
        have := HSB.out
        rw [HS.out, hz1, wrap64_id (by omega) (by omega)]
        omega
      case measure => omega
    · have hiN : len = i := by omega
      subst hiN
      by_cases c1 : z > 5000
      · have e1 : decide (z > 5000) = true := decide_eq_true c1
        clear hzz
        go_wp2_with (go_at_call 8; refine (rk m).mono ?_; rintro e w1 ⟨rfl, hk1⟩)
        go_ret
        exact ⟨rfl, ((Kept.refl _ w).drewN m).trans hk1⟩
      · have e1 : decide (z > 5000) = false := decide_eq_false c1
        by_cases c2 : 40 < len
        · have e2 : decide ((len : Int) > 40) = true := decide_eq_true (by omega)
          clear hzz
          go_wp2_with (go_at_call 8; refine (rk m).mono ?_; rintro e w1 ⟨rfl, hk1⟩)
          go_ret
          exact ⟨rfl, ((Kept.refl _ w).drewN m).trans hk1⟩
        · have e2 : decide ((len : Int) > 40) = false := decide_eq_false (by omega)
          have hV5 : 500 < V.size := by
            have := hzz (by omega)
            rcases hb with h | h | h
            · omega
            · exact h
            · omega
          have e3 : decide ((V.size : Int) > 500) = true := decide_eq_true (by omega)
          clear hzz
          go_wp2_with (go_at_call 8; refine (rk m).mono ?_; rintro e w1 ⟨rfl, hk1⟩)
          go_ret
          exact ⟨rfl, ((Kept.refl _ w).drewN m).trans hk1⟩
end Go.Proofs.Ytbbknbipppaemaa
