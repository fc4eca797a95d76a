/-
  For every text and every number the Go function portierelaw03.NamesGrow returns true, and its arguments read afterwards as before.
-/
import Derived.Test.YtcmfkodmppneoaaRows
import Derived.Test.YtcmfkodmppneoaaGrowth
import Derived.Test.YtcmfkodmppneoaaKnown
import Derived.Test.YtcmfkodmppneoaaFacts
import Derived.WalkKit
import Derived.ProofKit
import Derived.OpenShut
import Derived.ShutString
namespace Go.Proofs.Ytcmfkodmppneoaa.namesGrow
open Go.ChangeShapes Go.WideShapes Go.ChangeAt Go.RowKit
open Go.ChangeMaps (open_string shut_string)
set_option linter.unusedVariables false

theorem own : ownKnob Try.prog.godebug = none := by kernel_rfl

theorem walk (a0 : ByteArray) (a1 : Int) (w0 : a0.size ≤ maxLen) (w1 : (Lit.int .u8 a1).wf = true) (w : World) :
    Calls Try.prog 8 #[.string a0, .int .u8 a1] w fun e w' => e = .returned (.bool true) ∧ Below w.heap.size w w' := by
  obtain ⟨K, hKe⟩ : ∃ K : Nat → Prop, (fun k => k < w.heap.size) = K := ⟨_, rfl⟩
  have hK : ∀ k, K k → k < w.heap.size := by
    rw [← hKe]
    exact fun k h => h
  have hfin : ∀ X, Kept K w X → Below w.heap.size w X := by
    rw [← hKe]
    exact fun _ h => h.below
  clear hKe
  have hkn := fun X (hX : ∀ k, K k → k < X.heap.size) => known_any K X hX
  obtain ⟨z, rfl⟩ := u8_of w1
  clear w1 w0
  have hvs := fun X hX => valid_any a0 K X hX
  by_cases hz : a0.size ≤ 60
  · have e0 : decide ((a0.size : Int) > 60) = false := by simp; omega
    by_cases hv : validP a0.toList = true
    · rw [hv] at hvs
      rw [ByteArray.toList_eq] at hv
      have hl0 : a0.data.toList.length = a0.size := rfl
      have h57 : a0.size ≤ 57 → customP (a0 ++ ⟨#[45, 113]⟩ : ByteArray).toList = true := by
        intro h
        rw [ByteArray.toList_eq, ByteArray.data_append, Array.toList_append]
        exact grow_custom hv h
      have hcq := fun X hX => custom_any (a0 ++ ⟨#[45, 113]⟩) K X hX
      have hdv := fun X hX => valid_any (⟨#[45]⟩ ++ a0) K X hX
      have hd0 : validP (⟨#[45]⟩ ++ a0 : ByteArray).toList = false := by
        rw [ByteArray.toList_eq, ByteArray.data_append, Array.toList_append]
        exact dash_first _
      rw [hd0] at hdv
      have hnv := fun X hX => valid_any ⟨#[]⟩ K X hX
      have hn0 : validP (⟨#[]⟩ : ByteArray).toList = false := by
        rw [ByteArray.toList_eq]
        rfl
      rw [hn0] at hnv
      have HG : Hid (∀ m, validP (growT a0 m).toList = decide (a0.size + m ≤ 60)) := by
        intro m
        rw [ByteArray.toList_eq]
        exact grow_valid hv m
      clear hd0 hn0 hv hl0
      go_enter Try.func8, Try.ntmps8
      go_wp2_with fail
      refine (hvs w hK).mono ?_
      rintro e w1 ⟨rfl, p1⟩
      have q1 := p1
      clear p1
      go_wp2_with fail
      refine (hkn w1 (fun k hk => Nat.lt_of_lt_of_le (hK k hk) q1.size)).mono ?_
      rintro e w2 ⟨rfl, p2⟩
      have q2 := q1.trans p2
      clear p2 q1
      obtain ⟨m, hm⟩ : ∃ m, z.toNat % 80 = m := ⟨_, rfl⟩
      have hmod : ((z.toNat : Int) % 80) = (m : Int) := by omega
      have hm80 : m < 80 := by omega
      clear hm
      go_wp2_with fail
      go_loopw [5, 6, 21, 22, 23, 24, 25, 26, 27, 28, 29] (fun t i _ _ _ _ _ _ _ _ _ wr => ∃ k : Nat, k ≤ m ∧ i = .int .i64 k ∧ t = .string (growT a0 k) ∧ wr = w2) (fun _ i _ _ _ _ _ _ _ _ _ _ => m - (intOf i).toNat)
      case atStart => exact ⟨0, Nat.zero_le _, rfl, congrArg Value.string (growT_zero a0).symm, rfl⟩
      case round =>
        obtain ⟨k, hk, rfl, rfl, rfl⟩ := hrel
        have hk80 : k < 80 := by omega
        have HS : Hid (growT a0 k ++ ⟨#[57]⟩ = growT a0 (k + 1)) := growT_succ a0 k
        have HL : Hid ((growT a0 k).size = a0.size + k) := growT_size a0 k
        obtain ⟨t, ht⟩ : ∃ t, growT a0 k = t := ⟨_, rfl⟩
        rw [ht] at HS HL ⊢
        have hts : t.size ≤ 140 := by have := HL.out; omega
        by_cases hlt : k < m
        · clear ht
          go_wp2
          go_roundw
          case rel => exact ⟨k + 1, by omega, by go_num, congrArg Value.string HS.out, trivial⟩
          case measure => simp [intOf]; omega
        · have hvt := fun X hX => valid_any t K X hX
          have hgv := HG.out k
          rw [ht] at hgv
          rw [hgv] at hvt
          have hl := HL.out
          clear ht HS HG hgv HL
          by_cases g57 : a0.size ≤ 57
          · rw [h57 g57] at hcq
            have e57 : decide ((a0.size : Int) > 57) = false := by simp; omega
            by_cases g60 : a0.size + k ≤ 60
            · rw [decide_eq_true g60] at hvt
              have e60 : decide ((t.size : Int) ≤ 60) = true := by simp; omega
              clear h57 g57 g60 hl
              go_wp2_with fail
              refine (hvt wr (fun k hk => Nat.lt_of_lt_of_le (hK k hk) q2.size)).mono ?_
              rintro e w3 ⟨rfl, p3⟩
              have q3 := q2.trans p3
              clear p3 q2
              go_wp2_with fail
              refine (hcq w3 (fun k hk => Nat.lt_of_lt_of_le (hK k hk) q3.size)).mono ?_
              rintro e w4 ⟨rfl, p4⟩
              have q4 := q3.trans p4
              clear p4 q3
              go_wp2_with fail
              refine (hdv w4 (fun k hk => Nat.lt_of_lt_of_le (hK k hk) q4.size)).mono ?_
              rintro e w5 ⟨rfl, p5⟩
              have q5 := q4.trans p5
              clear p5 q4
              go_wp2_with fail
              refine (hnv w5 (fun k hk => Nat.lt_of_lt_of_le (hK k hk) q5.size)).mono ?_
              rintro e w6 ⟨rfl, p6⟩
              have q6 := q5.trans p6
              clear p6 q5
              go_wp2
              go_ret
              exact ⟨rfl, hfin _ q6⟩
            · rw [decide_eq_false g60] at hvt
              have e60 : decide ((t.size : Int) ≤ 60) = false := by simp; omega
              clear h57 g57 g60 hl
              go_wp2_with fail
              refine (hvt wr (fun k hk => Nat.lt_of_lt_of_le (hK k hk) q2.size)).mono ?_
              rintro e w3 ⟨rfl, p3⟩
              have q3 := q2.trans p3
              clear p3 q2
              go_wp2_with fail
              refine (hcq w3 (fun k hk => Nat.lt_of_lt_of_le (hK k hk) q3.size)).mono ?_
              rintro e w4 ⟨rfl, p4⟩
              have q4 := q3.trans p4
              clear p4 q3
              go_wp2_with fail
              refine (hdv w4 (fun k hk => Nat.lt_of_lt_of_le (hK k hk) q4.size)).mono ?_
              rintro e w5 ⟨rfl, p5⟩
              have q5 := q4.trans p5
              clear p5 q4
              go_wp2_with fail
              refine (hnv w5 (fun k hk => Nat.lt_of_lt_of_le (hK k hk) q5.size)).mono ?_
              rintro e w6 ⟨rfl, p6⟩
              have q6 := q5.trans p6
              clear p6 q5
              go_wp2
              go_ret
              exact ⟨rfl, hfin _ q6⟩
          · have e57 : decide ((a0.size : Int) > 57) = true := by simp; omega
            by_cases g60 : a0.size + k ≤ 60
            · rw [decide_eq_true g60] at hvt
              have e60 : decide ((t.size : Int) ≤ 60) = true := by simp; omega
              clear h57 g57 g60 hl
              go_wp2_with fail
              refine (hvt wr (fun k hk => Nat.lt_of_lt_of_le (hK k hk) q2.size)).mono ?_
              rintro e w3 ⟨rfl, p3⟩
              have q3 := q2.trans p3
              clear p3 q2
              go_wp2_with fail
              refine (hdv w3 (fun k hk => Nat.lt_of_lt_of_le (hK k hk) q3.size)).mono ?_
              rintro e w4 ⟨rfl, p4⟩
              have q4 := q3.trans p4
              clear p4 q3
              go_wp2_with fail
              refine (hnv w4 (fun k hk => Nat.lt_of_lt_of_le (hK k hk) q4.size)).mono ?_
              rintro e w5 ⟨rfl, p5⟩
              have q5 := q4.trans p5
              clear p5 q4
              go_wp2
              go_ret
              exact ⟨rfl, hfin _ q5⟩
            · rw [decide_eq_false g60] at hvt
              have e60 : decide ((t.size : Int) ≤ 60) = false := by simp; omega
              clear h57 g57 g60 hl
              go_wp2_with fail
              refine (hvt wr (fun k hk => Nat.lt_of_lt_of_le (hK k hk) q2.size)).mono ?_
              rintro e w3 ⟨rfl, p3⟩
              have q3 := q2.trans p3
              clear p3 q2
              go_wp2_with fail
              refine (hdv w3 (fun k hk => Nat.lt_of_lt_of_le (hK k hk) q3.size)).mono ?_
              rintro e w4 ⟨rfl, p4⟩
              have q4 := q3.trans p4
              clear p4 q3
              go_wp2_with fail
              refine (hnv w4 (fun k hk => Nat.lt_of_lt_of_le (hK k hk) q4.size)).mono ?_
              rintro e w5 ⟨rfl, p5⟩
              have q5 := q4.trans p5
              clear p5 q4
              go_wp2
              go_ret
              exact ⟨rfl, hfin _ q5⟩
    · have hv : validP a0.toList = false := by simpa using hv
      rw [hv] at hvs
      go_enter Try.func8, Try.ntmps8
      go_wp2_with fail
      refine (hvs w hK).mono ?_
      rintro e w1 ⟨rfl, p1⟩
      have q1 := p1
      clear p1
      go_wp2_with fail
      refine (hkn w1 (fun k hk => Nat.lt_of_lt_of_le (hK k hk) q1.size)).mono ?_
      rintro e w2 ⟨rfl, p2⟩
      have q2 := q1.trans p2
      clear p2 q1
      go_wp2
      go_ret
      exact ⟨rfl, hfin _ q2⟩
  · have e0 : decide ((a0.size : Int) > 60) = true := by simp; omega
    go_enter Try.func8, Try.ntmps8
    go_wp2_with fail
    refine (hkn w hK).mono ?_
    rintro e w1 ⟨rfl, p1⟩
    have q1 := p1
    clear p1
    go_wp2
    go_ret
    exact ⟨rfl, hfin _ q1⟩

set_option maxRecDepth 100000 in
theorem lifted (os : Os) (started : os.Started) (H : Type) (enc : TypeId × Value → H) :
    ReturnsInHanded {} Try.checked os 8 .any (Rows.namesGrowSpec.pre6 enc Try.prog Try.f8 Rows.namesGrowRow.domain false) (Rows.namesGrowSpec.post enc Try.prog Try.f8 false true false false) := by
  refine returnsInHanded_of_change (C := Try.checked) own started (by kernel_rfl) Try.func8
    (ChangeSpec.witness6 (enc := enc) (C := Try.checked) false ⟨#[], #[.string ByteArray.empty, .int .u8 0], []⟩ 8 (by kernel_rfl) (by kernel_rfl) (by kernel_rfl) (by kernel_rfl)) ?_
  intro W base args ds gs before hval0 hW hcnd _
  have hval : ∀ (j : Nat) t v, Try.f8.params[j]? = some t → args[j]? = some v → Value.okWide Try.prog W .any base t v := hval0
  have hW' := hW
  obtain ⟨p, q, hA0, hV, rfl, hfz, hnd⟩ := hW
  have hA : DataW.TrodAll enc Try.prog W 0 (fun _ => true) true Try.f8.params.toList args.toList ds p := hA0
  rw [Try.params8] at hA hval
  obtain ⟨v0, vs0, d0, ds0, p0, q0, hargs, rfl, rfl, h0, r0⟩ := trodAll_cons hA
  obtain ⟨v1, vs1, d1, ds1, p1, q1, rfl, rfl, rfl, h1, r1⟩ := trodAll_cons r0
  obtain ⟨rfl, rfl, rfl⟩ := trodAll_nil r1
  obtain rfl : args = #[v0, v1] := by cases args; simp_all
  obtain ⟨rfl, rfl⟩ := trodVars_none hV
  obtain ⟨a0, rfl, rfl, rfl, w0⟩ := open_string Try.underlying9 (hval 0 9 v0 rfl rfl) h0
  obtain ⟨a1, rfl, rfl, rfl, w1⟩ := open_int Try.underlying5 (hval 1 5 v1 rfl rfl) h1
  clear hA0 hval0
  refine (walk a0 a1 w0 w1 W).mono fun e W' ⟨he, bel⟩ => ?_
  subst he
  exact ⟨_, rfl, _, _, _, [], _, [], hW', trodAll_mk1 (shut_bool Try.underlying4 _), (trodAll_cons_mk (shut_string Try.underlying9 w0) (trodAll_cons_mk (shut_int Try.underlying5 w1) trodAll_mk0)), rfl, bel.frame _, fun h => by cases h⟩

theorem over : Rows.namesGrowRow.holds Try.pinned (OpenSpec.ofChange Rows.namesGrowSpec) :=
  OpenClaim.holds_of_wide 8 Try.f8 rfl rfl rfl rfl rfl rfl rfl ⟨rfl, rfl, rfl, rfl, rfl⟩ rfl rfl rfl rfl rfl (by kernel_rfl) Try.func8 (by kernel_rfl)
    (of_decide_eq_true (by kernel_rfl)) (by unfold Func.isWrapper; first | (rw [if_pos (by decide +kernel)]; kernel_rfl) | (rw [if_neg (by decide +kernel)]; exact ⟨rfl, rfl⟩))
    (fun os started H enc _ => lifted os started H enc)

theorem proved : Rows.NamesGrowSaid :=
  over
#print axioms proved
end Go.Proofs.Ytcmfkodmppneoaa.namesGrow

namespace Go.Proofs.Ytcmfkodmppneoaa
theorem namesGrow_holds : Rows.NamesGrowSaid := namesGrow.proved
#print axioms namesGrow_holds
end Go.Proofs.Ytcmfkodmppneoaa
