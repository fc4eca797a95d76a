/-
  The walk of TreeSounds.
-/
import Derived.Test.YtffllhohlfblnabED
import Derived.Test.YtffllhohlfblnabRr
namespace Go.Proofs.Ytffllhohlfblnab.O
open Go.RowKit Go.Sort
set_option linter.unusedVariables false

theorem IzAt.kept {w w' : World} {ia : Option Addr} {l : List Iz} (h : IzAt w ia l) (hk : Kept (fun k => k < w.heap.size) w w') : IzAt w' ia l := fun j hj => by
  obtain ⟨g, o, aa, ac, h1, h2, h3, h4, h5⟩ := h j hj
  exact ⟨g, o, aa, ac, h1, Nat.lt_of_lt_of_le h2 hk.size, h3.kept hk fun k h => Nat.lt_of_lt_of_le h hk.size, h4, fun i u hi => by rw [hk.cell (p := ⟨g, o + j * 5 + i, none⟩) h2]; exact h5 i u hi⟩
/-- How long the first items are. -/
def sumI (l : List Iz) : Nat → Nat
  | 0 => 0
  | i + 1 => sumI l i + (((l[i]?.map fun x => x.data.length).getD 0) + ((l[i]?.map fun x => x.name.length).getD 0))
theorem sumI_succ (l : List Iz) (i : Nat) (h : i < l.length) : sumI l (i + 1) = sumI l i + (l[i].data.length + l[i].name.length) := by
  show sumI l i + _ = _
  rw [List.getElem?_eq_getElem h]
  rfl
structure IzOk (y : Iz) : Prop where
  name : y.name.length ≤ 140737488355328
  data : y.data.length ≤ 140737488355328
  len : y.attrs.length ≤ 140737488355328
  ats : ∀ x ∈ y.attrs, x.name.length ≤ 140737488355328 ∧ x.value.length ≤ 140737488355328
theorem sumI_bound (l : List Iz) (hz : ∀ x ∈ l, IzOk x) : ∀ i, i ≤ l.length → sumI l i ≤ i * 281474976710656
  | 0, _ => Nat.zero_le _
  | i + 1, h => by
    have h1 := sumI_bound l hz i (by omega)
    have h2 := (hz l[i] (List.getElem_mem (by omega))).name
    have h3 := (hz l[i] (List.getElem_mem (by omega))).data
    rw [sumI_succ l i (by omega)]
    omega
theorem wrap64_id {z : Int} (h1 : -9223372036854775808 ≤ z) (h2 : z ≤ 9223372036854775807) : wrap64 z = z := by
  unfold wrap64
  omega
theorem ba_size (x : List UInt8) : (⟨x.toArray⟩ : ByteArray).size = x.length := by
  show x.toArray.size = _
  simp
set_option maxRecDepth 20000 in
set_option maxHeartbeats 4000000 in
theorem sounds_any (l : List Iz) (la : Option Addr) (n cap : Nat) (hln : l.length = n) (hlm : n ≤ 9223372036854775807) (w : World) (h : IzAt w la l) (hz : ∀ y ∈ l, IzOk y) :
    Calls Try.prog 3 #[.slice la n cap] w fun e w' => e = .returned (.bool true) ∧ Kept (fun k => k < w.heap.size) w w' := by
  have rk := fun m => known_any (w.drewN m)
  have HI : Hid (IzAt w la l) := h
  have HL : Hid (l.length = n) := hln
  have HZ : Hid (∀ y ∈ l, IzOk y) := hz
  clear h hln hz
  go_enter Try.func3, Try.ntmps3
  go_upto_region 3 with fail
  go_loopg [3, 4] n (fun gh v3 v4 wr => ∃ (i : Nat) (z : Int) (m : Nat), gh = n - i ∧ i ≤ n ∧ v4 = .int .i64 (i : Int) ∧ v3 = .int .i64 z ∧ (n ≤ 300 → z = (sumI l i : Int)) ∧ wr = w.drewN m)
  case atStart => exact ⟨0, 0, 0, rfl, Nat.zero_le _, rfl, rfl, fun _ => rfl, rfl⟩
  case round =>
    obtain ⟨i, z, m, hgi, hi, rfl, rfl, hzz, rfl⟩ := hrel
    by_cases hlt : i < n
    · have hl : i < l.length := by rw [HL.out]; exact hlt
      obtain ⟨g, o, aa, ac, rfl, -, -, -, hc⟩ := HI.out i hl
      have hzi := HZ.out l[i] (List.getElem_mem hl)
      have HS : Hid (sumI l (i + 1) = sumI l i + (l[i].data.length + l[i].name.length)) := sumI_succ l i hl
      have HSB : Hid (sumI l i ≤ i * 281474976710656) := sumI_bound l HZ.out i (by omega)
      have z1 := hzi.data
      have z2 := hzi.name
      have c2 : w.cell? ⟨g, o + i * 5 + 2, none⟩ = some (sv l[i].name) := hc 2 _ rfl
      have c3 : w.cell? ⟨g, o + i * 5 + 3, none⟩ = some (sv l[i].data) := hc 3 _ rfl
      obtain ⟨n1, h1⟩ : ∃ n1, l[i].data.length = n1 := ⟨_, rfl⟩
      obtain ⟨n2, h2⟩ : ∃ n2, l[i].name.length = n2 := ⟨_, rfl⟩
      obtain ⟨B1, hB1⟩ : ∃ B : ByteArray, ⟨l[i].data.toArray⟩ = B := ⟨_, rfl⟩
      obtain ⟨B2, hB2⟩ : ∃ B : ByteArray, ⟨l[i].name.toArray⟩ = B := ⟨_, rfl⟩
      have s1 : B1.size = n1 := by rw [← hB1, ba_size, h1]
      have s2 : B2.size = n2 := by rw [← hB2, ba_size, h2]
      have d0 : w.cell? ⟨g, o + i * 5 + 3, none⟩ = some (.string B1) := by rw [← hB1]; exact c3
      have d1 : w.cell? ⟨g, o + i * 5 + 2, none⟩ = some (.string B2) := by rw [← hB2]; exact c2
      have d2 : (w.drewN m).cell? ⟨g, o + i * 5 + 3, none⟩ = some (.string B1) := d0
      have d3 : (w.drewN m).cell? ⟨g, o + i * 5 + 2, none⟩ = some (.string B2) := d1
      rw [h1, h2] at HS
      rw [h1] at z1
      rw [h2] at z2
      clear c2 c3 hB1 hB2 h1 h2 hc hzi
      go_upto_region 5 with fail
      go_quiet (fail)
      go_wp2
      go_roundg (n - (i + 1))
      case rel =>
        refine ⟨i + 1, _, _, rfl, by omega, by go_num, rfl, fun h40 => ?_, rfl⟩
        have hz1 := hzz h40
        have := HSB.out
        rw [HS.out, hz1, wrap64_id (by omega) (by omega)]
        omega
      case measure => omega
    · have hiN : n = i := by omega
      subst hiN
      by_cases c1 : z > 10000
      · have e1 : decide (z > 10000) = true := decide_eq_true c1
        clear hzz
        go_wp2_with (go_at_call 8; refine (rk m).mono ?_; rintro e w1 ⟨rfl, hk1⟩)
        go_ret
        exact ⟨rfl, ((Kept.refl _ w).drewN m).trans hk1⟩
      · have e1 : decide (z > 10000) = false := decide_eq_false c1
        by_cases c2 : 300 < n
        · have e2 : decide ((n : Int) > 300) = true := decide_eq_true (by omega)
          clear hzz
          go_wp2_with (go_at_call 8; refine (rk m).mono ?_; rintro e w1 ⟨rfl, hk1⟩)
          go_ret
          exact ⟨rfl, ((Kept.refl _ w).drewN m).trans hk1⟩
        · have e2 : decide ((n : Int) > 300) = false := decide_eq_false (by omega)
          clear hzz
          go_upto_region 8 with (go_at_call 8; refine (rk m).mono ?_; rintro e w1 ⟨rfl, hk1⟩)
          have k1 : Kept (fun k => k < w.heap.size) w w1 := ((Kept.refl _ w).drewN m).trans hk1
          have I1 := HI.out.kept k1
          have rs := sound_any l la n cap HL.out (by omega) (fun y hy => ⟨by have := (HZ.out y hy).len; omega, fun x hx => by have := (HZ.out y hy).ats x hx; omega⟩) w1 I1
          have rr := fun (X : World) (hX : Kept (fun k => k < w1.heap.size) w1 X) => rsound_any l la n cap HL.out (by omega) (fun y hy => ⟨by have := (HZ.out y hy).name; omega, by have := (HZ.out y hy).len; omega, fun x hx => by have := (HZ.out y hy).ats x hx; omega⟩) X (I1.kept hX)
          obtain ⟨b, hb⟩ : ∃ b, soundL l = b := ⟨_, rfl⟩
          rw [hb] at rs rr
          have HK1 : Hid (Kept (fun k => k < w.heap.size) w w1) := k1
          clear rk hk1 k1 I1 hb
          go_wp2_with fail
          refine rs.mono ?_
          rintro e w2 ⟨rfl, hk2⟩
          have rr2 := rr w2 hk2
          clear rr rs
          go_wp2_with fail
          refine rr2.mono ?_
          rintro e w3 ⟨rfl, hk3⟩
          have HK3 : Hid (Kept (fun k => k < w.heap.size) w w3) := (HK1.out.trans (hk2.mono fun k h => Nat.lt_of_lt_of_le h HK1.out.size)).trans (hk3.mono fun k h => Nat.lt_of_lt_of_le h (Nat.le_trans HK1.out.size hk2.size))
          clear rr2 hk2 hk3
          cases b with
          | true =>
            go_wp2
            go_ret
            exact ⟨rfl, HK3.out⟩
          | false =>
            go_wp2
            go_ret
            exact ⟨rfl, HK3.out⟩
end Go.Proofs.Ytffllhohlfblnab.O
