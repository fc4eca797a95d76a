/-
  For every text and every number the Go function portierelaw02.PlaceColumns returns true, and its arguments read afterwards as before.
-/
import Derived.Test.YtinmabjcjdeekaaRows
import Derived.Test.YtinmabjcjdeekaaLetters
import Derived.Test.YtinmabjcjdeekaaKnown
import Derived.WalkKit
import Derived.ProofKit
import Derived.OpenShut
import Derived.ShutString
namespace Go.Proofs.Ytinmabjcjdeekaa.placeColumns
open Go.ChangeShapes Go.WideShapes Go.ChangeAt Go.RowKit
open Go.ChangeMaps (open_string shut_string)
set_option linter.unusedVariables false

theorem own : ownKnob Try.prog.godebug = none := by kernel_rfl

theorem walk (a0 : ByteArray) (a1 : Int) (w0 : a0.size ≤ maxLen) (w1 : (Lit.int .u16 a1).wf = true) (w : World) :
    Calls Try.prog 4 #[.string a0, .int .u16 a1] w fun e w' => e = .returned (.bool true) ∧ Below w.heap.size w w' := by
  have hK : ∀ k, (fun k => k < w.heap.size) k → k < w.heap.size := fun k h => h
  have hkn := known_any (fun k => k < w.heap.size) w hK
  by_cases hz : a0.size ≤ 500
  · have e0 : decide ((a0.size : Int) > 500) = false := by simp; omega
    have hw := wf_u16 w1
    obtain ⟨z, rfl⟩ : ∃ z : Nat, a1 = (z : Int) := ⟨a1.toNat, by omega⟩
    have hz16 : (z : Int) ≤ 65535 := by omega
    have hcv := fun (X : World) (n : Int) => conv_new X n X.heap.size rfl
    clear w1 hw
    go_enter Try.func4, Try.ntmps4
    go_wp2_with fail
    refine hkn.mono ?_
    rintro e w1 ⟨rfl, hk1⟩
    clear hkn
    go_wp2
    go_loopw [5, 6] (fun t i wr => ∃ k : Nat, k ≤ a0.size ∧ i = .int .i64 k ∧ t = .string (txt (prL (a0.data.toList.take k))) ∧ Kept (fun k => k < w.heap.size) w wr) (fun _ i _ => a0.size - (intOf i).toNat)
    case atStart => exact ⟨0, Nat.zero_le _, rfl, rfl, hk1⟩
    case round =>
      clear hk1
      obtain ⟨k, hk, rfl, rfl, hkp⟩ := hrel
      have hpl : (prL (a0.data.toList.take k)).length ≤ 500 := by simp [prL]; omega
      obtain ⟨tl, htl⟩ : ∃ tl, tl = prL (a0.data.toList.take k) := ⟨_, rfl⟩
      rw [← htl] at hpl
      rw [← htl]
      have HT : Hid (tl = prL (a0.data.toList.take k)) := htl
      clear htl
      by_cases hlt : k < a0.size
      · have HS : Hid (prL (a0.data.toList.take (k + 1)) = tl ++ [UInt8.ofNat (a0[k].toNat % 95) + 32]) := by
          have h1 : k < a0.data.toList.length := by simpa using hlt
          rw [List.take_succ_eq_append_getElem h1, prL_snoc, ← HT.out, prB_eq]
          rfl
        go_wp2
        go_roundw
        case rel =>
          refine ⟨k + 1, by omega, by go_num, ?_, hkp.alloc (fun k hk => Nat.lt_of_lt_of_le hk hkp.size) _⟩
          rw [HS.out]
          exact congrArg Value.string (ByteArray.mk_append_mk tl [_])
        case measure => simp [intOf]; omega
      · have hall : ∀ b ∈ tl, 32 ≤ b.toNat ∧ b.toNat < 127 := by rw [HT.out]; exact pr_all _
        obtain ⟨n, hn⟩ : ∃ n, n = z % (tl.length + 1) := ⟨_, rfl⟩
        have hns : n ≤ tl.length := Nat.le_of_lt_succ (by rw [hn]; exact Nat.mod_lt _ (Nat.succ_pos _))
        have HN : Hid ((z : Int) % ((tl.length : Int) + 1) = (n : Int)) := by rw [hn]; exact (Int.natCast_emod z (tl.length + 1)).symm
        have h1 := fun X hX => at_any (txt tl) n (fun k => k < w.heap.size) X hX (by rw [txt_size]; omega)
        rw [clip_le (s := txt tl) hns, txt_spot hall hns] at h1
        have h2 := fun X hX => of_any (txt tl) 1 (n + 1) (fun k => k < w.heap.size) X hX (by rw [txt_size]; omega)
        rw [txt_of hall hns] at h2
        have h3 := fun X hX => of_any (txt tl) 1 ((tl.length : Int) + 2) (fun k => k < w.heap.size) X hX (by rw [txt_size]; omega)
        rw [txt_none hall] at h3
        have hsz := txt_size tl
        have hn2 : ((1 + n : Nat) : Int) = (n : Int) + 1 := by omega
        clear HT hall hn hcv
        go_wp2_with fail
        rw [HN.out]
        refine (h1 wr fun k hk => Nat.lt_of_lt_of_le hk hkp.size).mono ?_
        rintro e w2 ⟨rfl, hk2⟩
        have hkk2 := hkp.trans hk2
        clear hkp hk2 h1 HN
        go_wp2_with fail
        refine (h2 w2 fun k hk => Nat.lt_of_lt_of_le hk hkk2.size).mono ?_
        rintro e w3 ⟨rfl, hk3⟩
        have hkk3 := hkk2.trans hk3
        clear hk3 hkk2 h2
        go_wp2_with fail
        refine (h3 w3 fun k hk => Nat.lt_of_lt_of_le hk hkk3.size).mono ?_
        rintro e w4 ⟨rfl, hk4⟩
        have hkk4 := hkk3.trans hk4
        clear hk4 hkk3 h3
        go_wp2
        go_ret
        exact ⟨rfl, hkk4.below⟩
  · have e0 : decide ((a0.size : Int) > 500) = true := by simp; omega
    go_enter Try.func4, Try.ntmps4
    go_wp2_with (go_at_call 9; refine hkn.mono ?_; rintro e w1 ⟨rfl, hk1⟩)
    go_ret
    exact ⟨rfl, hk1.below⟩

set_option maxRecDepth 100000 in
theorem lifted (os : Os) (started : os.Started) (H : Type) (enc : TypeId × Value → H) :
    ReturnsInHanded {} Try.checked os 4 .any (Rows.placeColumnsSpec.pre6 enc Try.prog Try.f4 Rows.placeColumnsRow.domain false) (Rows.placeColumnsSpec.post enc Try.prog Try.f4 false true false false) := by
  refine returnsInHanded_of_change (C := Try.checked) own started (by kernel_rfl) Try.func4
    (ChangeSpec.witness6 (enc := enc) (C := Try.checked) false ⟨#[], #[.string ByteArray.empty, .int .u16 0], []⟩ 8 (by kernel_rfl) (by kernel_rfl) (by kernel_rfl) (by kernel_rfl)) ?_
  intro W base args ds gs before hval0 hW hcnd _
  have hval : ∀ (j : Nat) t v, Try.f4.params[j]? = some t → args[j]? = some v → Value.okWide Try.prog W .any base t v := hval0
  have hW' := hW
  obtain ⟨p, q, hA0, hV, rfl, hfz, hnd⟩ := hW
  have hA : DataW.TrodAll enc Try.prog W 0 (fun _ => true) true Try.f4.params.toList args.toList ds p := hA0
  rw [Try.params4] at hA hval
  obtain ⟨v0, vs0, d0, ds0, p0, q0, hargs, rfl, rfl, h0, r0⟩ := trodAll_cons hA
  obtain ⟨v1, vs1, d1, ds1, p1, q1, rfl, rfl, rfl, h1, r1⟩ := trodAll_cons r0
  obtain ⟨rfl, rfl, rfl⟩ := trodAll_nil r1
  obtain rfl : args = #[v0, v1] := by cases args; simp_all
  obtain ⟨rfl, rfl⟩ := trodVars_none hV
  obtain ⟨a0, rfl, rfl, rfl, w0⟩ := open_string Try.underlying9 (hval 0 9 v0 rfl rfl) h0
  obtain ⟨a1, rfl, rfl, rfl, w1⟩ := open_int Try.underlying22 (hval 1 22 v1 rfl rfl) h1
  clear hA0 hval0
  refine (walk a0 a1 w0 w1 W).mono fun e W' ⟨he, bel⟩ => ?_
  subst he
  exact ⟨_, rfl, _, _, _, [], _, [], hW', trodAll_mk1 (shut_bool Try.underlying4 _), (trodAll_cons_mk (shut_string Try.underlying9 w0) (trodAll_cons_mk (shut_int Try.underlying22 w1) trodAll_mk0)), rfl, bel.frame _, fun h => by cases h⟩

theorem over : Rows.placeColumnsRow.holds Try.pinned (OpenSpec.ofChange Rows.placeColumnsSpec) :=
  OpenClaim.holds_of_wide 4 Try.f4 rfl rfl rfl rfl rfl rfl rfl ⟨rfl, rfl, rfl, rfl, rfl⟩ rfl rfl rfl rfl rfl (by kernel_rfl) Try.func4 (by kernel_rfl)
    (of_decide_eq_true (by kernel_rfl)) (by unfold Func.isWrapper; first | (rw [if_pos (by decide +kernel)]; kernel_rfl) | (rw [if_neg (by decide +kernel)]; exact ⟨rfl, rfl⟩))
    (fun os started H enc _ => lifted os started H enc)

theorem proved : Rows.PlaceColumnsSaid :=
  over
#print axioms proved
end Go.Proofs.Ytinmabjcjdeekaa.placeColumns

namespace Go.Proofs.Ytinmabjcjdeekaa
theorem placeColumns_holds : Rows.PlaceColumnsSaid := placeColumns.proved
#print axioms placeColumns_holds
end Go.Proofs.Ytinmabjcjdeekaa
