/-
  For every number and every text the Go function portierelaw03.NamesApart returns true, and its arguments read afterwards as before.
-/
import Derived.Test.YtcmfkodmppneoaaRows
import Derived.Test.YtcmfkodmppneoaaOne
import Derived.Test.YtcmfkodmppneoaaKnown
import Derived.Test.YtcmfkodmppneoaaFacts
import Derived.WalkKit
import Derived.ProofKit
import Derived.OpenShut
import Derived.ShutString
namespace Go.Proofs.Ytcmfkodmppneoaa.namesApart
open Go.ChangeShapes Go.WideShapes Go.ChangeAt Go.RowKit
open Go.ChangeMaps (open_string shut_string)
set_option linter.unusedVariables false

theorem own : ownKnob Try.prog.godebug = none := by kernel_rfl

theorem walk (a0 : Int) (a1 : ByteArray) (w0 : (Lit.int .u8 a0).wf = true) (w1 : a1.size ≤ maxLen) (w : World) :
    Calls Try.prog 7 #[.int .u8 a0, .string a1] w fun e w' => e = .returned (.bool true) ∧ Below w.heap.size w w' := by
  obtain ⟨K, hKe⟩ : ∃ K : Nat → Prop, (fun k => k < w.heap.size) = K := ⟨_, rfl⟩
  have hK : ∀ k, K k → k < w.heap.size := by
    rw [← hKe]
    exact fun k h => h
  have hfin : ∀ X, Kept K w X → Below w.heap.size w X := by
    rw [← hKe]
    exact fun _ h => h.below
  clear hKe
  have hkn := fun X (hX : ∀ k, K k → k < X.heap.size) => known_any K X hX
  obtain ⟨k, rfl⟩ := u8_of w0
  have hone := one_any k a1 K w hK
  obtain ⟨n, hn⟩ : ∃ n, oneB k.toNat a1 = n := ⟨_, rfl⟩
  rw [hn] at hone
  clear hn w1 w0
  by_cases hz : n.size ≤ 300
  · have cls := apart n.toList
    have e0 : decide ((n.size : Int) > 300) = false := by simp; omega
    have hvoid := fun X => void_any n K X
    obtain ⟨bvoid, hb⟩ : ∃ b, voidP n.toList = b := ⟨_, rfl⟩
    rw [hb] at hvoid cls
    clear hb
    have hraw := fun X => raw_any n K X
    obtain ⟨braw, hb⟩ : ∃ b, rawP n.toList = b := ⟨_, rfl⟩
    rw [hb] at hraw cls
    clear hb
    have hsoft := fun X => soft_any n K X
    obtain ⟨bsoft, hb⟩ : ∃ b, softP n.toList = b := ⟨_, rfl⟩
    rw [hb] at hsoft cls
    clear hb
    have hcustom := fun X hX => custom_any n K X hX
    obtain ⟨bcustom, hb⟩ : ∃ b, customP n.toList = b := ⟨_, rfl⟩
    rw [hb] at hcustom cls
    clear hb
    have hhost := fun X hX => host_any n K X hX
    obtain ⟨bhost, hb⟩ : ∃ b, hostP n.toList = b := ⟨_, rfl⟩
    rw [hb] at hhost cls
    clear hb
    have hblock := fun X => block_any n K X
    obtain ⟨bblock, hb⟩ : ∃ b, blockP n.toList = b := ⟨_, rfl⟩
    rw [hb] at hblock cls
    clear hb
    have hvalid := fun X hX => valid_any n K X hX
    obtain ⟨bvalid, hb⟩ : ∃ b, validP n.toList = b := ⟨_, rfl⟩
    rw [hb] at hvalid cls
    clear hb
    rcases cls with ⟨rfl, rfl, rfl, rfl, rfl, rfl⟩ | ⟨rfl, rfl, rfl, rfl, rfl, rfl⟩ | ⟨rfl, rfl, rfl, rfl, rfl, rfl⟩ | ⟨rfl, rfl, rfl, rfl, rfl, rfl, rfl⟩ | ⟨rfl, rfl, rfl, rfl, rfl, rfl⟩ | ⟨rfl, rfl, rfl, rfl, rfl, rfl, rfl⟩ | ⟨rfl, rfl, rfl, rfl, rfl, rfl⟩
    · go_enter Try.func7, Try.ntmps7
      go_wp2_with fail
      refine (hone).mono ?_
      rintro e w1 ⟨rfl, p1⟩
      have q1 := p1
      clear p1
      go_wp2_with fail
      refine (hkn w1 (fun k hk => Nat.lt_of_lt_of_le (hK k hk) q1.size)).mono ?_
      rintro e w2 ⟨rfl, p2⟩
      have q2 := q1.trans p2
      clear p2 q1
      go_wp2_with fail
      refine (hvoid w2).mono ?_
      rintro e w3 ⟨rfl, p3⟩
      have q3 := q2.trans p3
      clear p3 q2
      go_wp2_with fail
      refine (hraw w3).mono ?_
      rintro e w4 ⟨rfl, p4⟩
      have q4 := q3.trans p4
      clear p4 q3
      go_wp2_with fail
      refine (hsoft w4).mono ?_
      rintro e w5 ⟨rfl, p5⟩
      have q5 := q4.trans p5
      clear p5 q4
      go_wp2_with fail
      refine (hcustom w5 (fun k hk => Nat.lt_of_lt_of_le (hK k hk) q5.size)).mono ?_
      rintro e w6 ⟨rfl, p6⟩
      have q6 := q5.trans p6
      clear p6 q5
      go_wp2_with fail
      refine (hhost w6 (fun k hk => Nat.lt_of_lt_of_le (hK k hk) q6.size)).mono ?_
      rintro e w7 ⟨rfl, p7⟩
      have q7 := q6.trans p7
      clear p7 q6
      go_wp2_with fail
      refine (hvalid w7 (fun k hk => Nat.lt_of_lt_of_le (hK k hk) q7.size)).mono ?_
      rintro e w8 ⟨rfl, p8⟩
      have q8 := q7.trans p8
      clear p8 q7
      go_wp2
      go_ret
      exact ⟨rfl, hfin _ q8⟩
    · go_enter Try.func7, Try.ntmps7
      go_wp2_with fail
      refine (hone).mono ?_
      rintro e w1 ⟨rfl, p1⟩
      have q1 := p1
      clear p1
      go_wp2_with fail
      refine (hkn w1 (fun k hk => Nat.lt_of_lt_of_le (hK k hk) q1.size)).mono ?_
      rintro e w2 ⟨rfl, p2⟩
      have q2 := q1.trans p2
      clear p2 q1
      go_wp2_with fail
      refine (hvoid w2).mono ?_
      rintro e w3 ⟨rfl, p3⟩
      have q3 := q2.trans p3
      clear p3 q2
      go_wp2_with fail
      refine (hraw w3).mono ?_
      rintro e w4 ⟨rfl, p4⟩
      have q4 := q3.trans p4
      clear p4 q3
      go_wp2_with fail
      refine (hsoft w4).mono ?_
      rintro e w5 ⟨rfl, p5⟩
      have q5 := q4.trans p5
      clear p5 q4
      go_wp2_with fail
      refine (hcustom w5 (fun k hk => Nat.lt_of_lt_of_le (hK k hk) q5.size)).mono ?_
      rintro e w6 ⟨rfl, p6⟩
      have q6 := q5.trans p6
      clear p6 q5
      go_wp2_with fail
      refine (hhost w6 (fun k hk => Nat.lt_of_lt_of_le (hK k hk) q6.size)).mono ?_
      rintro e w7 ⟨rfl, p7⟩
      have q7 := q6.trans p7
      clear p7 q6
      go_wp2_with fail
      refine (hvalid w7 (fun k hk => Nat.lt_of_lt_of_le (hK k hk) q7.size)).mono ?_
      rintro e w8 ⟨rfl, p8⟩
      have q8 := q7.trans p8
      clear p8 q7
      go_wp2
      go_ret
      exact ⟨rfl, hfin _ q8⟩
    · go_enter Try.func7, Try.ntmps7
      go_wp2_with fail
      refine (hone).mono ?_
      rintro e w1 ⟨rfl, p1⟩
      have q1 := p1
      clear p1
      go_wp2_with fail
      refine (hkn w1 (fun k hk => Nat.lt_of_lt_of_le (hK k hk) q1.size)).mono ?_
      rintro e w2 ⟨rfl, p2⟩
      have q2 := q1.trans p2
      clear p2 q1
      go_wp2_with fail
      refine (hvoid w2).mono ?_
      rintro e w3 ⟨rfl, p3⟩
      have q3 := q2.trans p3
      clear p3 q2
      go_wp2_with fail
      refine (hraw w3).mono ?_
      rintro e w4 ⟨rfl, p4⟩
      have q4 := q3.trans p4
      clear p4 q3
      go_wp2_with fail
      refine (hsoft w4).mono ?_
      rintro e w5 ⟨rfl, p5⟩
      have q5 := q4.trans p5
      clear p5 q4
      go_wp2_with fail
      refine (hcustom w5 (fun k hk => Nat.lt_of_lt_of_le (hK k hk) q5.size)).mono ?_
      rintro e w6 ⟨rfl, p6⟩
      have q6 := q5.trans p6
      clear p6 q5
      go_wp2_with fail
      refine (hhost w6 (fun k hk => Nat.lt_of_lt_of_le (hK k hk) q6.size)).mono ?_
      rintro e w7 ⟨rfl, p7⟩
      have q7 := q6.trans p7
      clear p7 q6
      go_wp2_with fail
      refine (hvalid w7 (fun k hk => Nat.lt_of_lt_of_le (hK k hk) q7.size)).mono ?_
      rintro e w8 ⟨rfl, p8⟩
      have q8 := q7.trans p8
      clear p8 q7
      go_wp2
      go_ret
      exact ⟨rfl, hfin _ q8⟩
    · go_enter Try.func7, Try.ntmps7
      go_wp2_with fail
      refine (hone).mono ?_
      rintro e w1 ⟨rfl, p1⟩
      have q1 := p1
      clear p1
      go_wp2_with fail
      refine (hkn w1 (fun k hk => Nat.lt_of_lt_of_le (hK k hk) q1.size)).mono ?_
      rintro e w2 ⟨rfl, p2⟩
      have q2 := q1.trans p2
      clear p2 q1
      go_wp2_with fail
      refine (hvoid w2).mono ?_
      rintro e w3 ⟨rfl, p3⟩
      have q3 := q2.trans p3
      clear p3 q2
      go_wp2_with fail
      refine (hraw w3).mono ?_
      rintro e w4 ⟨rfl, p4⟩
      have q4 := q3.trans p4
      clear p4 q3
      go_wp2_with fail
      refine (hsoft w4).mono ?_
      rintro e w5 ⟨rfl, p5⟩
      have q5 := q4.trans p5
      clear p5 q4
      go_wp2_with fail
      refine (hcustom w5 (fun k hk => Nat.lt_of_lt_of_le (hK k hk) q5.size)).mono ?_
      rintro e w6 ⟨rfl, p6⟩
      have q6 := q5.trans p6
      clear p6 q5
      go_wp2_with fail
      refine (hhost w6 (fun k hk => Nat.lt_of_lt_of_le (hK k hk) q6.size)).mono ?_
      rintro e w7 ⟨rfl, p7⟩
      have q7 := q6.trans p7
      clear p7 q6
      go_wp2_with fail
      refine (hvalid w7 (fun k hk => Nat.lt_of_lt_of_le (hK k hk) q7.size)).mono ?_
      rintro e w8 ⟨rfl, p8⟩
      have q8 := q7.trans p8
      clear p8 q7
      go_wp2_with fail
      refine (hblock w8).mono ?_
      rintro e w9 ⟨rfl, p9⟩
      have q9 := q8.trans p9
      clear p9 q8
      go_wp2
      go_ret
      exact ⟨rfl, hfin _ q9⟩
    · go_enter Try.func7, Try.ntmps7
      go_wp2_with fail
      refine (hone).mono ?_
      rintro e w1 ⟨rfl, p1⟩
      have q1 := p1
      clear p1
      go_wp2_with fail
      refine (hkn w1 (fun k hk => Nat.lt_of_lt_of_le (hK k hk) q1.size)).mono ?_
      rintro e w2 ⟨rfl, p2⟩
      have q2 := q1.trans p2
      clear p2 q1
      go_wp2_with fail
      refine (hvoid w2).mono ?_
      rintro e w3 ⟨rfl, p3⟩
      have q3 := q2.trans p3
      clear p3 q2
      go_wp2_with fail
      refine (hraw w3).mono ?_
      rintro e w4 ⟨rfl, p4⟩
      have q4 := q3.trans p4
      clear p4 q3
      go_wp2_with fail
      refine (hsoft w4).mono ?_
      rintro e w5 ⟨rfl, p5⟩
      have q5 := q4.trans p5
      clear p5 q4
      go_wp2_with fail
      refine (hcustom w5 (fun k hk => Nat.lt_of_lt_of_le (hK k hk) q5.size)).mono ?_
      rintro e w6 ⟨rfl, p6⟩
      have q6 := q5.trans p6
      clear p6 q5
      go_wp2_with fail
      refine (hhost w6 (fun k hk => Nat.lt_of_lt_of_le (hK k hk) q6.size)).mono ?_
      rintro e w7 ⟨rfl, p7⟩
      have q7 := q6.trans p7
      clear p7 q6
      go_wp2_with fail
      refine (hvalid w7 (fun k hk => Nat.lt_of_lt_of_le (hK k hk) q7.size)).mono ?_
      rintro e w8 ⟨rfl, p8⟩
      have q8 := q7.trans p8
      clear p8 q7
      go_wp2
      go_ret
      exact ⟨rfl, hfin _ q8⟩
    · go_enter Try.func7, Try.ntmps7
      go_wp2_with fail
      refine (hone).mono ?_
      rintro e w1 ⟨rfl, p1⟩
      have q1 := p1
      clear p1
      go_wp2_with fail
      refine (hkn w1 (fun k hk => Nat.lt_of_lt_of_le (hK k hk) q1.size)).mono ?_
      rintro e w2 ⟨rfl, p2⟩
      have q2 := q1.trans p2
      clear p2 q1
      go_wp2_with fail
      refine (hvoid w2).mono ?_
      rintro e w3 ⟨rfl, p3⟩
      have q3 := q2.trans p3
      clear p3 q2
      go_wp2_with fail
      refine (hraw w3).mono ?_
      rintro e w4 ⟨rfl, p4⟩
      have q4 := q3.trans p4
      clear p4 q3
      go_wp2_with fail
      refine (hsoft w4).mono ?_
      rintro e w5 ⟨rfl, p5⟩
      have q5 := q4.trans p5
      clear p5 q4
      go_wp2_with fail
      refine (hcustom w5 (fun k hk => Nat.lt_of_lt_of_le (hK k hk) q5.size)).mono ?_
      rintro e w6 ⟨rfl, p6⟩
      have q6 := q5.trans p6
      clear p6 q5
      go_wp2_with fail
      refine (hhost w6 (fun k hk => Nat.lt_of_lt_of_le (hK k hk) q6.size)).mono ?_
      rintro e w7 ⟨rfl, p7⟩
      have q7 := q6.trans p7
      clear p7 q6
      go_wp2_with fail
      refine (hblock w7).mono ?_
      rintro e w8 ⟨rfl, p8⟩
      have q8 := q7.trans p8
      clear p8 q7
      go_wp2_with fail
      refine (hvalid w8 (fun k hk => Nat.lt_of_lt_of_le (hK k hk) q8.size)).mono ?_
      rintro e w9 ⟨rfl, p9⟩
      have q9 := q8.trans p9
      clear p9 q8
      go_wp2
      go_ret
      exact ⟨rfl, hfin _ q9⟩
    · go_enter Try.func7, Try.ntmps7
      go_wp2_with fail
      refine (hone).mono ?_
      rintro e w1 ⟨rfl, p1⟩
      have q1 := p1
      clear p1
      go_wp2_with fail
      refine (hkn w1 (fun k hk => Nat.lt_of_lt_of_le (hK k hk) q1.size)).mono ?_
      rintro e w2 ⟨rfl, p2⟩
      have q2 := q1.trans p2
      clear p2 q1
      go_wp2_with fail
      refine (hvoid w2).mono ?_
      rintro e w3 ⟨rfl, p3⟩
      have q3 := q2.trans p3
      clear p3 q2
      go_wp2_with fail
      refine (hraw w3).mono ?_
      rintro e w4 ⟨rfl, p4⟩
      have q4 := q3.trans p4
      clear p4 q3
      go_wp2_with fail
      refine (hsoft w4).mono ?_
      rintro e w5 ⟨rfl, p5⟩
      have q5 := q4.trans p5
      clear p5 q4
      go_wp2_with fail
      refine (hcustom w5 (fun k hk => Nat.lt_of_lt_of_le (hK k hk) q5.size)).mono ?_
      rintro e w6 ⟨rfl, p6⟩
      have q6 := q5.trans p6
      clear p6 q5
      go_wp2_with fail
      refine (hhost w6 (fun k hk => Nat.lt_of_lt_of_le (hK k hk) q6.size)).mono ?_
      rintro e w7 ⟨rfl, p7⟩
      have q7 := q6.trans p7
      clear p7 q6
      go_wp2_with fail
      refine (hblock w7).mono ?_
      rintro e w8 ⟨rfl, p8⟩
      have q8 := q7.trans p8
      clear p8 q7
      go_wp2
      go_ret
      exact ⟨rfl, hfin _ q8⟩
  · have e0 : decide ((n.size : Int) > 300) = true := by simp; omega
    go_enter Try.func7, Try.ntmps7
    go_wp2_with fail
    refine (hone).mono ?_
    rintro e w1 ⟨rfl, p1⟩
    have q1 := p1
    clear p1
    go_wp2_with fail
    refine (hkn w1 (fun k hk => Nat.lt_of_lt_of_le (hK k hk) q1.size)).mono ?_
    rintro e w2 ⟨rfl, p2⟩
    have q2 := q1.trans p2
    clear p2 q1
    go_wp2
    go_ret
    exact ⟨rfl, hfin _ q2⟩

set_option maxRecDepth 100000 in
theorem lifted (os : Os) (started : os.Started) (H : Type) (enc : TypeId × Value → H) :
    ReturnsInHanded {} Try.checked os 7 .any (Rows.namesApartSpec.pre6 enc Try.prog Try.f7 Rows.namesApartRow.domain false) (Rows.namesApartSpec.post enc Try.prog Try.f7 false true false false) := by
  refine returnsInHanded_of_change (C := Try.checked) own started (by kernel_rfl) Try.func7
    (ChangeSpec.witness6 (enc := enc) (C := Try.checked) false ⟨#[], #[.int .u8 0, .string ByteArray.empty], []⟩ 8 (by kernel_rfl) (by kernel_rfl) (by kernel_rfl) (by kernel_rfl)) ?_
  intro W base args ds gs before hval0 hW hcnd _
  have hval : ∀ (j : Nat) t v, Try.f7.params[j]? = some t → args[j]? = some v → Value.okWide Try.prog W .any base t v := hval0
  have hW' := hW
  obtain ⟨p, q, hA0, hV, rfl, hfz, hnd⟩ := hW
  have hA : DataW.TrodAll enc Try.prog W 0 (fun _ => true) true Try.f7.params.toList args.toList ds p := hA0
  rw [Try.params7] at hA hval
  obtain ⟨v0, vs0, d0, ds0, p0, q0, hargs, rfl, rfl, h0, r0⟩ := trodAll_cons hA
  obtain ⟨v1, vs1, d1, ds1, p1, q1, rfl, rfl, rfl, h1, r1⟩ := trodAll_cons r0
  obtain ⟨rfl, rfl, rfl⟩ := trodAll_nil r1
  obtain rfl : args = #[v0, v1] := by cases args; simp_all
  obtain ⟨rfl, rfl⟩ := trodVars_none hV
  obtain ⟨a0, rfl, rfl, rfl, w0⟩ := open_int Try.underlying5 (hval 0 5 v0 rfl rfl) h0
  obtain ⟨a1, rfl, rfl, rfl, w1⟩ := open_string Try.underlying9 (hval 1 9 v1 rfl rfl) h1
  clear hA0 hval0
  refine (walk a0 a1 w0 w1 W).mono fun e W' ⟨he, bel⟩ => ?_
  subst he
  exact ⟨_, rfl, _, _, _, [], _, [], hW', trodAll_mk1 (shut_bool Try.underlying4 _), (trodAll_cons_mk (shut_int Try.underlying5 w0) (trodAll_cons_mk (shut_string Try.underlying9 w1) trodAll_mk0)), rfl, bel.frame _, fun h => by cases h⟩

theorem over : Rows.namesApartRow.holds Try.pinned (OpenSpec.ofChange Rows.namesApartSpec) :=
  OpenClaim.holds_of_wide 7 Try.f7 rfl rfl rfl rfl rfl rfl rfl ⟨rfl, rfl, rfl, rfl, rfl⟩ rfl rfl rfl rfl rfl (by kernel_rfl) Try.func7 (by kernel_rfl)
    (of_decide_eq_true (by kernel_rfl)) (by unfold Func.isWrapper; first | (rw [if_pos (by decide +kernel)]; kernel_rfl) | (rw [if_neg (by decide +kernel)]; exact ⟨rfl, rfl⟩))
    (fun os started H enc _ => lifted os started H enc)

theorem proved : Rows.NamesApartSaid :=
  over
#print axioms proved
end Go.Proofs.Ytcmfkodmppneoaa.namesApart

namespace Go.Proofs.Ytcmfkodmppneoaa
theorem namesApart_holds : Rows.NamesApartSaid := namesApart.proved
#print axioms namesApart_holds
end Go.Proofs.Ytcmfkodmppneoaa
