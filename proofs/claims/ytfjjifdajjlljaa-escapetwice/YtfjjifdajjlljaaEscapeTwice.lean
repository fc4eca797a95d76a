/-
  For every text the Go function portierelaw05.EscapeTwice returns true, and its argument reads afterwards as before.
-/
import Derived.Test.YtfjjifdajjlljaaRows
import Derived.Test.YtfjjifdajjlljaaLaws
import Derived.WalkKit
import Derived.ProofKit
import Derived.OpenShut
import Derived.ShutString
namespace Go.Proofs.Ytfjjifdajjlljaa.escapeTwice
open Go.ChangeShapes Go.WideShapes Go.ChangeAt Go.RowKit
open Go.ChangeMaps (open_string shut_string)
set_option linter.unusedVariables false

theorem own : ownKnob Try.prog.godebug = none := by kernel_rfl

set_option maxRecDepth 20000 in
set_option maxHeartbeats 1000000 in
theorem walk (a0 : ByteArray) (w0 : a0.size ≤ maxLen) (w : World) :
    Calls Try.prog 4 #[.string a0] w fun e w' => e = .returned (.bool true) ∧ Below w.heap.size w w' := by
  obtain ⟨K, hKe⟩ : ∃ K : Nat → Prop, (fun k => k < w.heap.size) = K := ⟨_, rfl⟩
  have hK : ∀ k, K k → k < w.heap.size := by
    rw [← hKe]
    exact fun k h => h
  have hfin : ∀ X, Kept K w X → Below w.heap.size w X := by
    rw [← hKe]
    exact fun _ h => h.below
  clear hKe
  have hkn := fun X hX => known_any K X hX
  by_cases hz : a0.size ≤ 500
  · have e0 : decide ((a0.size : Int) > 500) = false := by simp; omega
    have h1 := fun X hX => text_any a0 K X hX (by omega)
    have HOK := okA_esc a0.data.toList
    have hsa := escB_size false a0
    have hsd : (⟨(esc false a0.data.toList).toArray⟩ : ByteArray).data.toList = esc false a0.data.toList := rfl
    obtain ⟨a, ha⟩ : ∃ a : ByteArray, (⟨(esc false a0.data.toList).toArray⟩ : ByteArray) = a := ⟨_, rfl⟩
    rw [ha] at h1 hsa hsd
    rw [← hsd] at HOK
    have h2 := fun X hX => text_any a K X hX (by omega)
    have hsb := escB_size false a
    have hlb := escB_long false a
    obtain ⟨b, hb⟩ : ∃ b : ByteArray, (⟨(esc false a.data.toList).toArray⟩ : ByteArray) = b := ⟨_, rfl⟩
    rw [hb] at h2 hsb hlb
    have HOK : Hid (okA a.data.toList) := HOK
    have eb : decide ((b.size : Int) ≥ (a.size : Int)) = true := by simp; omega
    clear ha hb hsd w0
    go_enter Try.func4, Try.ntmps4
    go_wp2_with fail
    refine (hkn w hK).mono ?_
    rintro e w1 ⟨rfl, p1⟩
    have q1 := p1
    clear p1
    go_wp2_with fail
    refine (h1 w1 (fun k hk => Nat.lt_of_lt_of_le (hK k hk) q1.size)).mono ?_
    rintro e w2 ⟨rfl, p2⟩
    have q2 := q1.trans p2
    clear p2 q1
    go_wp2_with fail
    refine (h2 w2 (fun k hk => Nat.lt_of_lt_of_le (hK k hk) q2.size)).mono ?_
    rintro e w3 ⟨rfl, p3⟩
    have q3 := q2.trans p3
    clear p3 q2
    go_wp2_with fail
    go_loopg [5] a.size (fun g i wr => ∃ k : Nat, g = a.size - k ∧ k ≤ a.size ∧ i = .int .i64 k ∧ wr = w3)
    case atStart => exact ⟨0, rfl, Nat.zero_le _, rfl, rfl⟩
    case round =>
      obtain ⟨k, hgk, hk, rfl, rfl⟩ := hrel
      by_cases hlt : k < a.size
      · by_cases h38 : a[k] = 38
        · have e1 : ((a[k].toNat : Int) == 38) = true := by rw [h38]; rfl
          obtain ⟨hk3, hor⟩ := okB HOK.out hlt h38
          have hk1 : k + 1 < a.size := by omega
          have e2 : decide ((k : Int) + 3 ≥ (a.size : Int)) = false := by simp; omega
          clear HOK h38
          rcases hor hk1 with h | h | h | h
          · have e3 : ((a[k + 1].toNat : Int) == 97) = true := by rw [h]; rfl
            have e4 : ((a[k + 1].toNat : Int) == 108) = false := by rw [h]; rfl
            have e5 : ((a[k + 1].toNat : Int) == 103) = false := by rw [h]; rfl
            have e6 : ((a[k + 1].toNat : Int) == 110) = false := by rw [h]; rfl
            clear h
            go_wp2
            go_roundg (a.size - (k + 1))
            case rel => exact ⟨k + 1, rfl, by omega, by go_num, rfl⟩
            case measure => omega
          · have e3 : ((a[k + 1].toNat : Int) == 97) = false := by rw [h]; rfl
            have e4 : ((a[k + 1].toNat : Int) == 108) = true := by rw [h]; rfl
            have e5 : ((a[k + 1].toNat : Int) == 103) = false := by rw [h]; rfl
            have e6 : ((a[k + 1].toNat : Int) == 110) = false := by rw [h]; rfl
            clear h
            go_wp2
            go_roundg (a.size - (k + 1))
            case rel => exact ⟨k + 1, rfl, by omega, by go_num, rfl⟩
            case measure => omega
          · have e3 : ((a[k + 1].toNat : Int) == 97) = false := by rw [h]; rfl
            have e4 : ((a[k + 1].toNat : Int) == 108) = false := by rw [h]; rfl
            have e5 : ((a[k + 1].toNat : Int) == 103) = true := by rw [h]; rfl
            have e6 : ((a[k + 1].toNat : Int) == 110) = false := by rw [h]; rfl
            clear h
            go_wp2
            go_roundg (a.size - (k + 1))
            case rel => exact ⟨k + 1, rfl, by omega, by go_num, rfl⟩
            case measure => omega
          · have e3 : ((a[k + 1].toNat : Int) == 97) = false := by rw [h]; rfl
            have e4 : ((a[k + 1].toNat : Int) == 108) = false := by rw [h]; rfl
            have e5 : ((a[k + 1].toNat : Int) == 103) = false := by rw [h]; rfl
            have e6 : ((a[k + 1].toNat : Int) == 110) = true := by rw [h]; rfl
            clear h
            go_wp2
            go_roundg (a.size - (k + 1))
            case rel => exact ⟨k + 1, rfl, by omega, by go_num, rfl⟩
            case measure => omega
        · have e1 : ((a[k].toNat : Int) == 38) = false := eqb (d := 38) h38
          clear HOK
          go_wp2
          go_roundg (a.size - (k + 1))
          case rel => exact ⟨k + 1, rfl, by omega, by go_num, rfl⟩
          case measure => omega
      · clear HOK
        go_wp2
        go_ret
        exact ⟨rfl, hfin _ q3⟩
  · have e0 : decide ((a0.size : Int) > 500) = true := by simp; omega
    clear w0
    go_enter Try.func4, Try.ntmps4
    go_wp2_with fail
    refine (hkn w hK).mono ?_
    rintro e w1 ⟨rfl, p1⟩
    have q1 := p1
    clear p1
    go_wp2
    go_ret
    exact ⟨rfl, hfin _ q1⟩

set_option maxRecDepth 100000 in
theorem lifted (os : Os) (started : os.Started) (H : Type) (enc : TypeId × Value → H) :
    ReturnsInHanded {} Try.checked os 4 .any (Rows.escapeTwiceSpec.pre6 enc Try.prog Try.f4 Rows.escapeTwiceRow.domain false) (Rows.escapeTwiceSpec.post enc Try.prog Try.f4 false true false false) := by
  refine returnsInHanded_of_change (C := Try.checked) own started (by kernel_rfl) Try.func4
    (ChangeSpec.witness6 (enc := enc) (C := Try.checked) false ⟨#[], #[.string ByteArray.empty], []⟩ 8 (by kernel_rfl) (by kernel_rfl) (by kernel_rfl) (by kernel_rfl)) ?_
  intro W base args ds gs before hval0 hW hcnd _
  have hval : ∀ (j : Nat) t v, Try.f4.params[j]? = some t → args[j]? = some v → Value.okWide Try.prog W .any base t v := hval0
  have hW' := hW
  obtain ⟨p, q, hA0, hV, rfl, hfz, hnd⟩ := hW
  have hA : DataW.TrodAll enc Try.prog W 0 (fun _ => true) true Try.f4.params.toList args.toList ds p := hA0
  rw [Try.params4] at hA hval
  obtain ⟨v0, vs0, d0, ds0, p0, q0, hargs, rfl, rfl, h0, r0⟩ := trodAll_cons hA
  obtain ⟨rfl, rfl, rfl⟩ := trodAll_nil r0
  obtain rfl : args = #[v0] := by cases args; simp_all
  obtain ⟨rfl, rfl⟩ := trodVars_none hV
  obtain ⟨a0, rfl, rfl, rfl, w0⟩ := open_string Try.underlying9 (hval 0 9 v0 rfl rfl) h0
  clear hA0 hval0
  refine (walk a0 w0 W).mono fun e W' ⟨he, bel⟩ => ?_
  subst he
  exact ⟨_, rfl, _, _, _, [], _, [], hW', trodAll_mk1 (shut_bool Try.underlying4 _), (trodAll_cons_mk (shut_string Try.underlying9 w0) trodAll_mk0), rfl, bel.frame _, fun h => by cases h⟩

theorem over : Rows.escapeTwiceRow.holds Try.pinned (OpenSpec.ofChange Rows.escapeTwiceSpec) :=
  OpenClaim.holds_of_wide 4 Try.f4 rfl rfl rfl rfl rfl rfl rfl ⟨rfl, rfl, rfl, rfl, rfl⟩ rfl rfl rfl rfl rfl (by kernel_rfl) Try.func4 (by kernel_rfl)
    (of_decide_eq_true (by kernel_rfl)) (by unfold Func.isWrapper; first | (rw [if_pos (by decide +kernel)]; kernel_rfl) | (rw [if_neg (by decide +kernel)]; exact ⟨rfl, rfl⟩))
    (fun os started H enc _ => lifted os started H enc)

theorem proved : Rows.EscapeTwiceSaid :=
  over
#print axioms proved
end Go.Proofs.Ytfjjifdajjlljaa.escapeTwice

namespace Go.Proofs.Ytfjjifdajjlljaa
theorem escapeTwice_holds : Rows.EscapeTwiceSaid := escapeTwice.proved
#print axioms escapeTwice_holds
end Go.Proofs.Ytfjjifdajjlljaa
