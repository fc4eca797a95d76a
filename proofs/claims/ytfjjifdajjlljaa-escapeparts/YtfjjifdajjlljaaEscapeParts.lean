/-
  For every two texts the Go function portierelaw05.EscapeParts returns true, and its arguments read afterwards as before.
-/
import Derived.Test.YtfjjifdajjlljaaRows
import Derived.Test.YtfjjifdajjlljaaLaws
import Derived.WalkKit
import Derived.ProofKit
import Derived.OpenShut
import Derived.ShutString
namespace Go.Proofs.Ytfjjifdajjlljaa.escapeParts
open Go.ChangeShapes Go.WideShapes Go.ChangeAt Go.RowKit
open Go.ChangeMaps (open_string shut_string)
set_option linter.unusedVariables false

theorem own : ownKnob Try.prog.godebug = none := by kernel_rfl

set_option maxRecDepth 20000 in
set_option maxHeartbeats 1000000 in
theorem walk (a0 : ByteArray) (a1 : ByteArray) (w0 : a0.size ≤ maxLen) (w1 : a1.size ≤ maxLen) (w : World) :
    Calls Try.prog 7 #[.string a0, .string a1] w fun e w' => e = .returned (.bool true) ∧ Below w.heap.size w w' := by
  obtain ⟨K, hKe⟩ : ∃ K : Nat → Prop, (fun k => k < w.heap.size) = K := ⟨_, rfl⟩
  have hK : ∀ k, K k → k < w.heap.size := by
    rw [← hKe]
    exact fun k h => h
  have hfin : ∀ X, Kept K w X → Below w.heap.size w X := by
    rw [← hKe]
    exact fun _ h => h.below
  clear hKe
  have hkn := fun X hX => known_any K X hX
  by_cases hz : a0.size ≤ 1000
  · have e0 : decide ((a0.size : Int) > 1000) = false := by simp; omega
    by_cases hy : a1.size ≤ 1000
    · have e1 : decide ((a1.size : Int) > 1000) = false := by simp; omega
      by_cases hp : 0 < a0.size
      · have e2 : decide ((a0.size : Int) > 0) = true := by simp; omega
        obtain ⟨j, hj⟩ : ∃ j, a0.size = j + 1 := ⟨a0.size - 1, by omega⟩
        have hjl : j < a0.size := by omega
        have hsz : (a0.size : Int) - 1 = (j : Int) := by omega
        by_cases hc : a0[j] = 194
        · have e3 : ((a0[j].toNat : Int) == 194) = true := by rw [hc]; rfl
          clear hc w0 w1
          go_enter Try.func7, Try.ntmps7
          go_wp2_with fail
          refine (hkn w hK).mono ?_
          rintro e w1 ⟨rfl, p1⟩
          have q1 := p1
          clear p1
          go_wp2
          go_ret
          exact ⟨rfl, hfin _ q1⟩
        · have e3 : ((a0[j].toNat : Int) == 194) = false := eqb (d := 194) hc
          have hlast : a0.data.toList.getLast? ≠ some 194 := by
            rw [List.getLast?_eq_getElem?, show a0.data.toList.length - 1 = j by show a0.size - 1 = j; omega, List.getElem?_eq_getElem (show j < a0.data.toList.length from hjl)]
            exact fun h => hc (Option.some.inj h)
          clear hc
          have h1 := fun X hX => text_any (a0 ++ a1) K X hX (by rw [ByteArray.size_append]; omega)
          have h2 := fun X hX => text_any a0 K X hX (by omega)
          have h3 := fun X hX => text_any a1 K X hX (by omega)
          have h4 := fun X hX => value_any (a0 ++ a1) K X hX (by rw [ByteArray.size_append]; omega)
          have h5 := fun X hX => value_any a0 K X hX (by omega)
          have h6 := fun X hX => value_any a1 K X hX (by omega)
          rw [esc_parts false hlast] at h1
          rw [esc_parts true hlast] at h4
          have s2 := escB_size false a0
          have s3 := escB_size false a1
          have s5 := escB_size true a0
          have s6 := escB_size true a1
          obtain ⟨X2, hX2⟩ : ∃ X2 : ByteArray, (⟨(esc false a0.data.toList).toArray⟩ : ByteArray) = X2 := ⟨_, rfl⟩
          obtain ⟨X3, hX3⟩ : ∃ X3 : ByteArray, (⟨(esc false a1.data.toList).toArray⟩ : ByteArray) = X3 := ⟨_, rfl⟩
          obtain ⟨X5, hX5⟩ : ∃ X5 : ByteArray, (⟨(esc true a0.data.toList).toArray⟩ : ByteArray) = X5 := ⟨_, rfl⟩
          obtain ⟨X6, hX6⟩ : ∃ X6 : ByteArray, (⟨(esc true a1.data.toList).toArray⟩ : ByteArray) = X6 := ⟨_, rfl⟩
          rw [hX2] at h1 h2 s2
          rw [hX3] at h1 h3 s3
          rw [hX5] at h4 h5 s5
          rw [hX6] at h4 h6 s6
          clear hX2 hX3 hX5 hX6 hlast w0 w1
          go_enter Try.func7, Try.ntmps7
          go_wp2_with fail
          refine (hkn w hK).mono ?_
          rintro e w1 ⟨rfl, p1⟩
          have q1 := p1
          clear p1
          go_wp2_with fail
          refine (h1 w1 (fun k hk => Nat.lt_of_lt_of_le (hK k hk) q1.size)).mono ?_
          rintro e w2 ⟨rfl, p2⟩
          have q2 := q1.trans p2
          clear p2 q1
          go_wp2_with fail
          refine (h2 w2 (fun k hk => Nat.lt_of_lt_of_le (hK k hk) q2.size)).mono ?_
          rintro e w3 ⟨rfl, p3⟩
          have q3 := q2.trans p3
          clear p3 q2
          go_wp2_with fail
          refine (h3 w3 (fun k hk => Nat.lt_of_lt_of_le (hK k hk) q3.size)).mono ?_
          rintro e w4 ⟨rfl, p4⟩
          have q4 := q3.trans p4
          clear p4 q3
          go_wp2_with fail
          refine (h4 w4 (fun k hk => Nat.lt_of_lt_of_le (hK k hk) q4.size)).mono ?_
          rintro e w5 ⟨rfl, p5⟩
          have q5 := q4.trans p5
          clear p5 q4
          go_wp2_with fail
          refine (h5 w5 (fun k hk => Nat.lt_of_lt_of_le (hK k hk) q5.size)).mono ?_
          rintro e w6 ⟨rfl, p6⟩
          have q6 := q5.trans p6
          clear p6 q5
          go_wp2_with fail
          refine (h6 w6 (fun k hk => Nat.lt_of_lt_of_le (hK k hk) q6.size)).mono ?_
          rintro e w7 ⟨rfl, p7⟩
          have q7 := q6.trans p7
          clear p7 q6
          go_wp2
          go_ret
          exact ⟨rfl, hfin _ q7⟩
      · have e2 : decide ((a0.size : Int) > 0) = false := decide_eq_false (by omega)
        have hlast : a0.data.toList.getLast? ≠ some 194 := by
          rw [List.eq_nil_of_length_eq_zero (l := a0.data.toList) (by show a0.size = 0; omega)]
          exact fun h => by cases h
        have h1 := fun X hX => text_any (a0 ++ a1) K X hX (by rw [ByteArray.size_append]; omega)
        have h2 := fun X hX => text_any a0 K X hX (by omega)
        have h3 := fun X hX => text_any a1 K X hX (by omega)
        have h4 := fun X hX => value_any (a0 ++ a1) K X hX (by rw [ByteArray.size_append]; omega)
        have h5 := fun X hX => value_any a0 K X hX (by omega)
        have h6 := fun X hX => value_any a1 K X hX (by omega)
        rw [esc_parts false hlast] at h1
        rw [esc_parts true hlast] at h4
        have s2 := escB_size false a0
        have s3 := escB_size false a1
        have s5 := escB_size true a0
        have s6 := escB_size true a1
        obtain ⟨X2, hX2⟩ : ∃ X2 : ByteArray, (⟨(esc false a0.data.toList).toArray⟩ : ByteArray) = X2 := ⟨_, rfl⟩
        obtain ⟨X3, hX3⟩ : ∃ X3 : ByteArray, (⟨(esc false a1.data.toList).toArray⟩ : ByteArray) = X3 := ⟨_, rfl⟩
        obtain ⟨X5, hX5⟩ : ∃ X5 : ByteArray, (⟨(esc true a0.data.toList).toArray⟩ : ByteArray) = X5 := ⟨_, rfl⟩
        obtain ⟨X6, hX6⟩ : ∃ X6 : ByteArray, (⟨(esc true a1.data.toList).toArray⟩ : ByteArray) = X6 := ⟨_, rfl⟩
        rw [hX2] at h1 h2 s2
        rw [hX3] at h1 h3 s3
        rw [hX5] at h4 h5 s5
        rw [hX6] at h4 h6 s6
        clear hX2 hX3 hX5 hX6 hlast w0 w1
        go_enter Try.func7, Try.ntmps7
        go_wp2_with fail
        refine (hkn w hK).mono ?_
        rintro e w1 ⟨rfl, p1⟩
        have q1 := p1
        clear p1
        go_wp2_with fail
        refine (h1 w1 (fun k hk => Nat.lt_of_lt_of_le (hK k hk) q1.size)).mono ?_
        rintro e w2 ⟨rfl, p2⟩
        have q2 := q1.trans p2
        clear p2 q1
        go_wp2_with fail
        refine (h2 w2 (fun k hk => Nat.lt_of_lt_of_le (hK k hk) q2.size)).mono ?_
        rintro e w3 ⟨rfl, p3⟩
        have q3 := q2.trans p3
        clear p3 q2
        go_wp2_with fail
        refine (h3 w3 (fun k hk => Nat.lt_of_lt_of_le (hK k hk) q3.size)).mono ?_
        rintro e w4 ⟨rfl, p4⟩
        have q4 := q3.trans p4
        clear p4 q3
        go_wp2_with fail
        refine (h4 w4 (fun k hk => Nat.lt_of_lt_of_le (hK k hk) q4.size)).mono ?_
        rintro e w5 ⟨rfl, p5⟩
        have q5 := q4.trans p5
        clear p5 q4
        go_wp2_with fail
        refine (h5 w5 (fun k hk => Nat.lt_of_lt_of_le (hK k hk) q5.size)).mono ?_
        rintro e w6 ⟨rfl, p6⟩
        have q6 := q5.trans p6
        clear p6 q5
        go_wp2_with fail
        refine (h6 w6 (fun k hk => Nat.lt_of_lt_of_le (hK k hk) q6.size)).mono ?_
        rintro e w7 ⟨rfl, p7⟩
        have q7 := q6.trans p7
        clear p7 q6
        go_wp2
        go_ret
        exact ⟨rfl, hfin _ q7⟩
    · have e1 : decide ((a1.size : Int) > 1000) = true := by simp; omega
      clear w0 w1
      go_enter Try.func7, Try.ntmps7
      go_wp2_with fail
      refine (hkn w hK).mono ?_
      rintro e w1 ⟨rfl, p1⟩
      have q1 := p1
      clear p1
      go_wp2
      go_ret
      exact ⟨rfl, hfin _ q1⟩
  · have e0 : decide ((a0.size : Int) > 1000) = true := by simp; omega
    clear w0 w1
    go_enter Try.func7, Try.ntmps7
    go_wp2_with fail
    refine (hkn w hK).mono ?_
    rintro e w1 ⟨rfl, p1⟩
    have q1 := p1
    clear p1
    go_wp2
    go_ret
    exact ⟨rfl, hfin _ q1⟩

set_option maxRecDepth 100000 in
theorem lifted (os : Os) (started : os.Started) (H : Type) (enc : TypeId × Value → H) :
    ReturnsInHanded {} Try.checked os 7 .any (Rows.escapePartsSpec.pre6 enc Try.prog Try.f7 Rows.escapePartsRow.domain false) (Rows.escapePartsSpec.post enc Try.prog Try.f7 false true false false) := by
  refine returnsInHanded_of_change (C := Try.checked) own started (by kernel_rfl) Try.func7
    (ChangeSpec.witness6 (enc := enc) (C := Try.checked) false ⟨#[], #[.string ByteArray.empty, .string ByteArray.empty], []⟩ 8 (by kernel_rfl) (by kernel_rfl) (by kernel_rfl) (by kernel_rfl)) ?_
  intro W base args ds gs before hval0 hW hcnd _
  have hval : ∀ (j : Nat) t v, Try.f7.params[j]? = some t → args[j]? = some v → Value.okWide Try.prog W .any base t v := hval0
  have hW' := hW
  obtain ⟨p, q, hA0, hV, rfl, hfz, hnd⟩ := hW
  have hA : DataW.TrodAll enc Try.prog W 0 (fun _ => true) true Try.f7.params.toList args.toList ds p := hA0
  rw [Try.params7] at hA hval
  obtain ⟨v0, vs0, d0, ds0, p0, q0, hargs, rfl, rfl, h0, r0⟩ := trodAll_cons hA
  obtain ⟨v1, vs1, d1, ds1, p1, q1, rfl, rfl, rfl, h1, r1⟩ := trodAll_cons r0
  obtain ⟨rfl, rfl, rfl⟩ := trodAll_nil r1
  obtain rfl : args = #[v0, v1] := by cases args; simp_all
  obtain ⟨rfl, rfl⟩ := trodVars_none hV
  obtain ⟨a0, rfl, rfl, rfl, w0⟩ := open_string Try.underlying9 (hval 0 9 v0 rfl rfl) h0
  obtain ⟨a1, rfl, rfl, rfl, w1⟩ := open_string Try.underlying9 (hval 1 9 v1 rfl rfl) h1
  clear hA0 hval0
  refine (walk a0 a1 w0 w1 W).mono fun e W' ⟨he, bel⟩ => ?_
  subst he
  exact ⟨_, rfl, _, _, _, [], _, [], hW', trodAll_mk1 (shut_bool Try.underlying4 _), (trodAll_cons_mk (shut_string Try.underlying9 w0) (trodAll_cons_mk (shut_string Try.underlying9 w1) trodAll_mk0)), rfl, bel.frame _, fun h => by cases h⟩

theorem over : Rows.escapePartsRow.holds Try.pinned (OpenSpec.ofChange Rows.escapePartsSpec) :=
  OpenClaim.holds_of_wide 7 Try.f7 rfl rfl rfl rfl rfl rfl rfl ⟨rfl, rfl, rfl, rfl, rfl⟩ rfl rfl rfl rfl rfl (by kernel_rfl) Try.func7 (by kernel_rfl)
    (of_decide_eq_true (by kernel_rfl)) (by unfold Func.isWrapper; first | (rw [if_pos (by decide +kernel)]; kernel_rfl) | (rw [if_neg (by decide +kernel)]; exact ⟨rfl, rfl⟩))
    (fun os started H enc _ => lifted os started H enc)

theorem proved : Rows.EscapePartsSaid :=
  over
#print axioms proved
end Go.Proofs.Ytfjjifdajjlljaa.escapeParts

namespace Go.Proofs.Ytfjjifdajjlljaa
theorem escapeParts_holds : Rows.EscapePartsSaid := escapeParts.proved
#print axioms escapeParts_holds
end Go.Proofs.Ytfjjifdajjlljaa
