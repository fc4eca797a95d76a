/-
  For every text the Go function portierelaw05.EscapeBack returns true, and its argument reads afterwards as before.
-/
import Derived.Test.YtfjjifdajjlljaaRows
import Derived.Test.YtfjjifdajjlljaaLaws
import Derived.Test.YtfjjifdajjlljaaRAll
import Derived.WalkKit
import Derived.ProofKit
import Derived.OpenShut
import Derived.ShutString
namespace Go.Proofs.Ytfjjifdajjlljaa.escapeBack
open Go.ChangeShapes Go.WideShapes Go.ChangeAt Go.RowKit
open Go.ChangeMaps (open_string shut_string)
set_option linter.unusedVariables false

theorem own : ownKnob Try.prog.godebug = none := by kernel_rfl

set_option maxRecDepth 20000 in
set_option maxHeartbeats 1000000 in
theorem walk (a0 : ByteArray) (w0 : a0.size ≤ maxLen) (w : World) :
    Calls Try.prog 6 #[.string a0] w fun e w' => e = .returned (.bool true) ∧ Below w.heap.size w w' := by
  obtain ⟨K, hKe⟩ : ∃ K : Nat → Prop, (fun k => k < w.heap.size) = K := ⟨_, rfl⟩
  have hK : ∀ k, K k → k < w.heap.size := by
    rw [← hKe]
    exact fun k h => h
  have hfin : ∀ X, Kept K w X → Below w.heap.size w X := by
    rw [← hKe]
    exact fun _ h => h.below
  clear hKe
  have hkn := fun X hX => known_any K X hX
  by_cases hz : a0.size ≤ 1000
  · have e0 : decide ((a0.size : Int) > 1000) = false := by simp; omega
    have h1 := fun X hX => text_any a0 K X hX (by omega)
    have h2 := fun X hX => value_any a0 K X hX (by omega)
    have HA : Hid (∀ d ∈ (⟨(esc false a0.data.toList).toArray⟩ : ByteArray).data.toList, d ≠ 60 ∧ d ≠ 62 ∧ (false = true → d ≠ 34)) := esc_sign false a0.data.toList
    have HB : Hid (∀ d ∈ (⟨(esc true a0.data.toList).toArray⟩ : ByteArray).data.toList, d ≠ 60 ∧ d ≠ 34) := fun d hd => ⟨(esc_sign true a0.data.toList d hd).1, (esc_sign true a0.data.toList d hd).2.2 rfl⟩
    have hsa := escB_size false a0
    have hsb := escB_size true a0
    have h3 := fun X hX => rall_any ⟨(esc false a0.data.toList).toArray⟩ false K X hX (by omega)
    have h4 := fun X hX => rall_any ⟨(esc true a0.data.toList).toArray⟩ true K X hX (by omega)
    rw [allB false false a0] at h3
    rw [allB true true a0] at h4
    obtain ⟨a, ha⟩ : ∃ a : ByteArray, (⟨(esc false a0.data.toList).toArray⟩ : ByteArray) = a := ⟨_, rfl⟩
    obtain ⟨b, hb⟩ : ∃ b : ByteArray, (⟨(esc true a0.data.toList).toArray⟩ : ByteArray) = b := ⟨_, rfl⟩
    rw [ha] at h1 HA hsa h3
    rw [hb] at h2 HB hsb h4
    clear ha hb w0
    go_enter Try.func6, Try.ntmps6
    go_wp2_with fail
    refine (hkn w hK).mono ?_
    rintro e w1 ⟨rfl, p1⟩
    have q1 := p1
    clear p1
    go_wp2_with fail
    refine (h1 w1 (fun k hk => Nat.lt_of_lt_of_le (hK k hk) q1.size)).mono ?_
    rintro e w2 ⟨rfl, p2⟩
    have q2 := q1.trans p2
    clear p2 q1
    go_wp2_with fail
    refine (h2 w2 (fun k hk => Nat.lt_of_lt_of_le (hK k hk) q2.size)).mono ?_
    rintro e w3 ⟨rfl, p3⟩
    have q3 := q2.trans p3
    clear p3 q2
    go_wp2_with fail
    go_loopg [5] a.size (fun g i wr => ∃ k : Nat, g = a.size - k ∧ k ≤ a.size ∧ i = .int .i64 k ∧ wr = w3)
    case atStart => exact ⟨0, rfl, Nat.zero_le _, rfl, rfl⟩
    case round =>
      obtain ⟨k, hgk, hk, rfl, rfl⟩ := hrel
      by_cases hlt : k < a.size
      · have hs := HA.out a[k] (by exact List.getElem_mem (show k < a.data.toList.length from hlt))
        have e1 : ((a[k].toNat : Int) == 60) = false := eqb (d := 60) hs.1
        have e2 : ((a[k].toNat : Int) == 62) = false := eqb (d := 62) hs.2.1
        clear hs
        go_wp2
        go_roundg (a.size - (k + 1))
        case rel => exact ⟨k + 1, rfl, by omega, by go_num, rfl⟩
        case measure => omega
      · have hkk : k = a.size := by omega
        subst hkk
        obtain ⟨wr0, hwr0⟩ : ∃ W, wr = W := ⟨_, rfl⟩
        rw [hwr0] at q3 ⊢
        clear hwr0
        go_wp2_with fail
        go_loopg [6] b.size (fun g i wr => ∃ k : Nat, g = b.size - k ∧ k ≤ b.size ∧ i = .int .i64 k ∧ wr = wr0)
        case atStart => exact ⟨0, rfl, Nat.zero_le _, rfl, rfl⟩
        case round =>
          obtain ⟨k, hgk, hk, rfl, rfl⟩ := hrel
          by_cases hlt : k < b.size
          · have hs := HB.out b[k] (by exact List.getElem_mem (show k < b.data.toList.length from hlt))
            have e1 : ((b[k].toNat : Int) == 60) = false := eqb (d := 60) hs.1
            have e2 : ((b[k].toNat : Int) == 34) = false := eqb (d := 34) hs.2
            clear hs
            go_wp2
            go_roundg (b.size - (k + 1))
            case rel => exact ⟨k + 1, rfl, by omega, by go_num, rfl⟩
            case measure => omega
          · have hkk : k = b.size := by omega
            subst hkk
            clear HA HB
            go_wp2_with fail
            refine (h3 wr (fun k hk => Nat.lt_of_lt_of_le (hK k hk) q3.size)).mono ?_
            rintro e w4 ⟨rfl, p4⟩
            have q4 := q3.trans p4
            clear p4 q3
            go_wp2_with fail
            refine (h4 w4 (fun k hk => Nat.lt_of_lt_of_le (hK k hk) q4.size)).mono ?_
            rintro e w5 ⟨rfl, p5⟩
            have q5 := q4.trans p5
            clear p5 q4
            go_wp2
            go_ret
            exact ⟨rfl, hfin _ q5⟩
  · have e0 : decide ((a0.size : Int) > 1000) = true := by simp; omega
    clear w0
    go_enter Try.func6, Try.ntmps6
    go_wp2_with fail
    refine (hkn w hK).mono ?_
    rintro e w1 ⟨rfl, p1⟩
    have q1 := p1
    clear p1
    go_wp2
    go_ret
    exact ⟨rfl, hfin _ q1⟩

set_option maxRecDepth 100000 in
theorem lifted (os : Os) (started : os.Started) (H : Type) (enc : TypeId × Value → H) :
    ReturnsInHanded {} Try.checked os 6 .any (Rows.escapeBackSpec.pre6 enc Try.prog Try.f6 Rows.escapeBackRow.domain false) (Rows.escapeBackSpec.post enc Try.prog Try.f6 false true false false) := by
  refine returnsInHanded_of_change (C := Try.checked) own started (by kernel_rfl) Try.func6
    (ChangeSpec.witness6 (enc := enc) (C := Try.checked) false ⟨#[], #[.string ByteArray.empty], []⟩ 8 (by kernel_rfl) (by kernel_rfl) (by kernel_rfl) (by kernel_rfl)) ?_
  intro W base args ds gs before hval0 hW hcnd _
  have hval : ∀ (j : Nat) t v, Try.f6.params[j]? = some t → args[j]? = some v → Value.okWide Try.prog W .any base t v := hval0
  have hW' := hW
  obtain ⟨p, q, hA0, hV, rfl, hfz, hnd⟩ := hW
  have hA : DataW.TrodAll enc Try.prog W 0 (fun _ => true) true Try.f6.params.toList args.toList ds p := hA0
  rw [Try.params6] at hA hval
  obtain ⟨v0, vs0, d0, ds0, p0, q0, hargs, rfl, rfl, h0, r0⟩ := trodAll_cons hA
  obtain ⟨rfl, rfl, rfl⟩ := trodAll_nil r0
  obtain rfl : args = #[v0] := by cases args; simp_all
  obtain ⟨rfl, rfl⟩ := trodVars_none hV
  obtain ⟨a0, rfl, rfl, rfl, w0⟩ := open_string Try.underlying9 (hval 0 9 v0 rfl rfl) h0
  clear hA0 hval0
  refine (walk a0 w0 W).mono fun e W' ⟨he, bel⟩ => ?_
  subst he
  exact ⟨_, rfl, _, _, _, [], _, [], hW', trodAll_mk1 (shut_bool Try.underlying4 _), (trodAll_cons_mk (shut_string Try.underlying9 w0) trodAll_mk0), rfl, bel.frame _, fun h => by cases h⟩

theorem over : Rows.escapeBackRow.holds Try.pinned (OpenSpec.ofChange Rows.escapeBackSpec) :=
  OpenClaim.holds_of_wide 6 Try.f6 rfl rfl rfl rfl rfl rfl rfl ⟨rfl, rfl, rfl, rfl, rfl⟩ rfl rfl rfl rfl rfl (by kernel_rfl) Try.func6 (by kernel_rfl)
    (of_decide_eq_true (by kernel_rfl)) (by unfold Func.isWrapper; first | (rw [if_pos (by decide +kernel)]; kernel_rfl) | (rw [if_neg (by decide +kernel)]; exact ⟨rfl, rfl⟩))
    (fun os started H enc _ => lifted os started H enc)

theorem proved : Rows.EscapeBackSaid :=
  over
#print axioms proved
end Go.Proofs.Ytfjjifdajjlljaa.escapeBack

namespace Go.Proofs.Ytfjjifdajjlljaa
theorem escapeBack_holds : Rows.EscapeBackSaid := escapeBack.proved
#print axioms escapeBack_holds
end Go.Proofs.Ytfjjifdajjlljaa
