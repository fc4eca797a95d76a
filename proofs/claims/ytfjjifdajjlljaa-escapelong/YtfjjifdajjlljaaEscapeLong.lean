/-
  For every text the Go function portierelaw05.EscapeLong returns true, and its argument reads afterwards as before.
-/
import Derived.Test.YtfjjifdajjlljaaRows
import Derived.Test.YtfjjifdajjlljaaLaws
import Derived.WalkKit
import Derived.ProofKit
import Derived.OpenShut
import Derived.ShutString
namespace Go.Proofs.Ytfjjifdajjlljaa.escapeLong
open Go.ChangeShapes Go.WideShapes Go.ChangeAt Go.RowKit
open Go.ChangeMaps (open_string shut_string)
set_option linter.unusedVariables false

theorem own : ownKnob Try.prog.godebug = none := by kernel_rfl

set_option maxRecDepth 20000 in
set_option maxHeartbeats 1000000 in
theorem walk (a0 : ByteArray) (w0 : a0.size ≤ maxLen) (w : World) :
    Calls Try.prog 3 #[.string a0] w fun e w' => e = .returned (.bool true) ∧ Below w.heap.size w w' := by
  obtain ⟨K, hKe⟩ : ∃ K : Nat → Prop, (fun k => k < w.heap.size) = K := ⟨_, rfl⟩
  have hK : ∀ k, K k → k < w.heap.size := by
    rw [← hKe]
    exact fun k h => h
  have hfin : ∀ X, Kept K w X → Below w.heap.size w X := by
    rw [← hKe]
    exact fun _ h => h.below
  clear hKe
  have hkn := fun X hX => known_any K X hX
  by_cases hz : a0.size ≤ 1000
  · have e0 : decide ((a0.size : Int) > 1000) = false := by simp; omega
    have h1 := fun X hX => text_any a0 K X hX (by omega)
    have h2 := fun X hX => value_any a0 K X hX (by omega)
    have hsa := escB_size false a0
    have hsb := escB_size true a0
    have hla := escB_long false a0
    have hlb := escB_grow a0
    obtain ⟨a, ha⟩ : ∃ a : ByteArray, (⟨(esc false a0.data.toList).toArray⟩ : ByteArray) = a := ⟨_, rfl⟩
    obtain ⟨b, hb⟩ : ∃ b : ByteArray, (⟨(esc true a0.data.toList).toArray⟩ : ByteArray) = b := ⟨_, rfl⟩
    rw [ha] at h1 hsa hla hlb
    rw [hb] at h2 hsb hlb
    have ea : decide ((a.size : Int) ≥ (a0.size : Int)) = true := by simp; omega
    have eb : decide ((b.size : Int) ≥ (a.size : Int)) = true := by simp; omega
    have hcv := fun (X : World) (n : Int) => conv_new X n X.heap.size rfl
    clear ha hb w0
    go_enter Try.func3, Try.ntmps3
    go_wp2_with fail
    refine (hkn w hK).mono ?_
    rintro e w1 ⟨rfl, p1⟩
    have q1 := p1
    clear p1
    go_wp2
    go_loopw [3, 4] (fun t i wr => ∃ k : Nat, k ≤ a0.size ∧ i = .int .i64 k ∧ t = .string (txt (leL (a0.data.toList.take k))) ∧ Kept K w wr) (fun _ i _ => a0.size - (intOf i).toNat)
    case atStart => exact ⟨0, Nat.zero_le _, rfl, rfl, q1⟩
    case round =>
      clear q1
      obtain ⟨k, hk, rfl, rfl, hkp⟩ := hrel
      have hpl : (leL (a0.data.toList.take k)).length ≤ 1000 := by simp [leL]; omega
      obtain ⟨tl, htl⟩ : ∃ tl, tl = leL (a0.data.toList.take k) := ⟨_, rfl⟩
      rw [← htl] at hpl
      rw [← htl]
      have HT : Hid (tl = leL (a0.data.toList.take k)) := htl
      clear htl
      by_cases hlt : k < a0.size
      · have HS : Hid (leL (a0.data.toList.take (k + 1)) = tl ++ [97 + UInt8.ofNat (a0[k].toNat % 26)]) := by
          have h1 : k < a0.data.toList.length := hlt
          show leL _ = _
          rw [List.take_succ_eq_append_getElem h1, leL_snoc, ← HT.out, leB_eq]
          rfl
        clear h1 h2 HT
        go_wp2
        go_roundw
        case rel =>
          refine ⟨k + 1, by omega, by go_num, ?_, hkp.alloc (fun k hk => Nat.lt_of_lt_of_le (hK k hk) hkp.size) _⟩
          rw [HS.out]
          exact congrArg Value.string (ByteArray.mk_append_mk tl [_])
        case measure => simp [intOf]; omega
      · have hall : ∀ c ∈ tl, 97 ≤ c.toNat ∧ c.toNat ≤ 122 := by rw [HT.out]; exact le_all _
        have h3 := fun X hX => text_any (txt tl) K X hX (by rw [txt_size]; omega)
        have h4 := fun X hX => value_any (txt tl) K X hX (by rw [txt_size]; omega)
        rw [esc_txt false hall] at h3
        rw [esc_txt true hall] at h4
        obtain ⟨T, hT⟩ : ∃ T, txt tl = T := ⟨_, rfl⟩
        rw [hT] at h3 h4 ⊢
        clear hT hall HT hcv
        go_wp2_with fail
        refine (h1 wr (fun k hk => Nat.lt_of_lt_of_le (hK k hk) hkp.size)).mono ?_
        rintro e w2 ⟨rfl, p2⟩
        have q2 := hkp.trans p2
        clear p2 hkp
        go_wp2_with fail
        refine (h2 w2 (fun k hk => Nat.lt_of_lt_of_le (hK k hk) q2.size)).mono ?_
        rintro e w3 ⟨rfl, p3⟩
        have q3 := q2.trans p3
        clear p3 q2
        go_wp2_with fail
        refine (h1 w3 (fun k hk => Nat.lt_of_lt_of_le (hK k hk) q3.size)).mono ?_
        rintro e w4 ⟨rfl, p4⟩
        have q4 := q3.trans p4
        clear p4 q3
        go_wp2_with fail
        refine (h3 w4 (fun k hk => Nat.lt_of_lt_of_le (hK k hk) q4.size)).mono ?_
        rintro e w5 ⟨rfl, p5⟩
        have q5 := q4.trans p5
        clear p5 q4
        go_wp2_with fail
        refine (h4 w5 (fun k hk => Nat.lt_of_lt_of_le (hK k hk) q5.size)).mono ?_
        rintro e w6 ⟨rfl, p6⟩
        have q6 := q5.trans p6
        clear p6 q5
        go_wp2
        go_ret
        exact ⟨rfl, hfin _ q6⟩
  · have e0 : decide ((a0.size : Int) > 1000) = true := by simp; omega
    clear w0
    go_enter Try.func3, Try.ntmps3
    go_wp2_with fail
    refine (hkn w hK).mono ?_
    rintro e w1 ⟨rfl, p1⟩
    have q1 := p1
    clear p1
    go_wp2
    go_ret
    exact ⟨rfl, hfin _ q1⟩

set_option maxRecDepth 100000 in
theorem lifted (os : Os) (started : os.Started) (H : Type) (enc : TypeId × Value → H) :
    ReturnsInHanded {} Try.checked os 3 .any (Rows.escapeLongSpec.pre6 enc Try.prog Try.f3 Rows.escapeLongRow.domain false) (Rows.escapeLongSpec.post enc Try.prog Try.f3 false true false false) := by
  refine returnsInHanded_of_change (C := Try.checked) own started (by kernel_rfl) Try.func3
    (ChangeSpec.witness6 (enc := enc) (C := Try.checked) false ⟨#[], #[.string ByteArray.empty], []⟩ 8 (by kernel_rfl) (by kernel_rfl) (by kernel_rfl) (by kernel_rfl)) ?_
  intro W base args ds gs before hval0 hW hcnd _
  have hval : ∀ (j : Nat) t v, Try.f3.params[j]? = some t → args[j]? = some v → Value.okWide Try.prog W .any base t v := hval0
  have hW' := hW
  obtain ⟨p, q, hA0, hV, rfl, hfz, hnd⟩ := hW
  have hA : DataW.TrodAll enc Try.prog W 0 (fun _ => true) true Try.f3.params.toList args.toList ds p := hA0
  rw [Try.params3] at hA hval
  obtain ⟨v0, vs0, d0, ds0, p0, q0, hargs, rfl, rfl, h0, r0⟩ := trodAll_cons hA
  obtain ⟨rfl, rfl, rfl⟩ := trodAll_nil r0
  obtain rfl : args = #[v0] := by cases args; simp_all
  obtain ⟨rfl, rfl⟩ := trodVars_none hV
  obtain ⟨a0, rfl, rfl, rfl, w0⟩ := open_string Try.underlying9 (hval 0 9 v0 rfl rfl) h0
  clear hA0 hval0
  refine (walk a0 w0 W).mono fun e W' ⟨he, bel⟩ => ?_
  subst he
  exact ⟨_, rfl, _, _, _, [], _, [], hW', trodAll_mk1 (shut_bool Try.underlying4 _), (trodAll_cons_mk (shut_string Try.underlying9 w0) trodAll_mk0), rfl, bel.frame _, fun h => by cases h⟩

theorem over : Rows.escapeLongRow.holds Try.pinned (OpenSpec.ofChange Rows.escapeLongSpec) :=
  OpenClaim.holds_of_wide 3 Try.f3 rfl rfl rfl rfl rfl rfl rfl ⟨rfl, rfl, rfl, rfl, rfl⟩ rfl rfl rfl rfl rfl (by kernel_rfl) Try.func3 (by kernel_rfl)
    (of_decide_eq_true (by kernel_rfl)) (by unfold Func.isWrapper; first | (rw [if_pos (by decide +kernel)]; kernel_rfl) | (rw [if_neg (by decide +kernel)]; exact ⟨rfl, rfl⟩))
    (fun os started H enc _ => lifted os started H enc)

theorem proved : Rows.EscapeLongSaid :=
  over
#print axioms proved
end Go.Proofs.Ytfjjifdajjlljaa.escapeLong

namespace Go.Proofs.Ytfjjifdajjlljaa
theorem escapeLong_holds : Rows.EscapeLongSaid := escapeLong.proved
#print axioms escapeLong_holds
end Go.Proofs.Ytfjjifdajjlljaa
