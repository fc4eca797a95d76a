/-
  For every text and every two numbers the Go function portierelaw02.PlaceOrder returns true, and its arguments read afterwards as before.
-/
import Derived.Test.YtinmabjcjdeekabRows
import Derived.Test.YtinmabjcjdeekabFacts
import Derived.Test.YtinmabjcjdeekabKnown
import Derived.WalkKit
import Derived.ProofKit
import Derived.OpenShut
import Derived.ShutString
namespace Go.Proofs.Ytinmabjcjdeekab.placeOrder
open Go.ChangeShapes Go.WideShapes Go.ChangeAt Go.RowKit
open Go.ChangeMaps (open_string shut_string)
set_option linter.unusedVariables false

theorem own : ownKnob Try.prog.godebug = none := by kernel_rfl

theorem walk (a0 : ByteArray) (a1 : Int) (a2 : Int) (w0 : a0.size ≤ maxLen) (w1 : (Lit.int .u16 a1).wf = true) (w2 : (Lit.int .u16 a2).wf = true) (w : World) :
    Calls Try.prog 3 #[.string a0, .int .u16 a1, .int .u16 a2] w fun e w' => e = .returned (.bool true) ∧ Below w.heap.size w w' := by
  have hK : ∀ k, (fun k => k < w.heap.size) k → k < w.heap.size := fun k h => h
  have hkn := known_any (fun k => k < w.heap.size) w hK
  by_cases hz : a0.size ≤ 2000
  · have e0 : decide ((a0.size : Int) > 2000) = false := by simp; omega
    have hw := wf_u16 w1
    have hw2 := wf_u16 w2
    obtain ⟨z, rfl⟩ : ∃ z : Nat, a1 = (z : Int) := ⟨a1.toNat, by omega⟩
    obtain ⟨y, rfl⟩ : ∃ y : Nat, a2 = (y : Int) := ⟨a2.toNat, by omega⟩
    have hz16 : (z : Int) ≤ 65535 := by omega
    have hy16 : (y : Int) ≤ 65535 := by omega
    obtain ⟨n, hn⟩ : ∃ n, n = z % (a0.size + 1) := ⟨_, rfl⟩
    have hns : n ≤ a0.size := Nat.le_of_lt_succ (by rw [hn]; exact Nat.mod_lt _ (Nat.succ_pos _))
    obtain ⟨m, hm⟩ : ∃ m, m = y % (a0.size - n + 1) := ⟨_, rfl⟩
    have hms : m ≤ a0.size - n := Nat.le_of_lt_succ (by rw [hm]; exact Nat.mod_lt _ (Nat.succ_pos _))
    have HN : Hid ((z : Int) % ((a0.size : Int) + 1) = (n : Int)) := by rw [hn]; exact (Int.natCast_emod z (a0.size + 1)).symm
    have HM : Hid ((y : Int) % ((a0.size : Int) - (n : Int) + 1) = (m : Int)) := by
      rw [hm]
      have e : (a0.size : Int) - (n : Int) + 1 = ((a0.size - n + 1 : Nat) : Int) := by omega
      rw [e]
      exact (Int.natCast_emod y (a0.size - n + 1)).symm
    have h1 := fun X hX => at_any a0 n (fun k => k < w.heap.size) X hX (by omega)
    rw [clip_le hns] at h1
    have h2 := fun X hX => at_any a0 ((n + m : Nat) : Int) (fun k => k < w.heap.size) X hX (by omega)
    rw [clip_le (by omega)] at h2
    have haf := spot_after a0.data.toList n (n + m) (by omega)
    unfold After at haf
    obtain ⟨⟨l, c⟩, hS⟩ : ∃ q, q = spot (a0.data.toList.take n) := ⟨_, rfl⟩
    obtain ⟨⟨l2, c2⟩, hS2⟩ : ∃ q, q = spot (a0.data.toList.take (n + m)) := ⟨_, rfl⟩
    rw [← hS] at h1 haf
    rw [← hS2] at h2 haf
    simp only at haf
    clear hn hm hS hS2 w1 w2 hw hw2
    go_enter Try.func3, Try.ntmps3
    go_wp2_with fail
    refine hkn.mono ?_
    rintro e w1 ⟨rfl, hk1⟩
    clear hkn
    go_upto_region 3 with fail
    go_cut [7] (fun s7 wc => s7 = .int .i64 (n : Int) ∧ wc = w1)
    case first =>
      go_wp2
      go_meet
      case rel => exact ⟨by rw [← HN.out], rfl⟩
    case rest =>
      obtain ⟨rfl, rfl⟩ := hcut
      go_upto_region 4 with fail
      go_cut [8] (fun s8 wd => s8 = .int .i64 ((n + m : Nat) : Int) ∧ wd = wc)
      case first =>
        go_wp2
        go_meet
        case rel => exact ⟨by rw [HM.out]; exact congrArg _ (by unfold wrap64; omega), rfl⟩
      case rest =>
        obtain ⟨rfl, rfl⟩ := hcut
        go_wp2_with fail
        refine (h1 _ fun k hk => Nat.lt_of_lt_of_le hk hk1.size).mono ?_
        rintro e w2 ⟨rfl, hk2⟩
        have hkk2 := hk1.trans hk2
        clear hk1 hk2 h1
        go_wp2_with fail
        refine (h2 w2 fun k hk => Nat.lt_of_lt_of_le hk hkk2.size).mono ?_
        rintro e w3 ⟨rfl, hk3⟩
        have hkk3 := hkk2.trans hk3
        clear hk3 hkk2 h2 HN HM
        by_cases g : l < l2
        · have e1 : decide ((l2 : Int) > (l : Int)) = true := by simp; omega
          clear haf
          go_wp2
          go_ret
          exact ⟨rfl, hkk3.below⟩
        · have e1 : decide ((l2 : Int) > (l : Int)) = false := by simp; omega
          obtain rfl : l2 = l := by omega
          have e2 : decide (c ≤ c2) = true := by simp; omega
          clear haf g
          go_wp2
          go_ret
          exact ⟨rfl, hkk3.below⟩
  · have e0 : decide ((a0.size : Int) > 2000) = true := by simp; omega
    go_enter Try.func3, Try.ntmps3
    go_wp2_with (go_at_call 4; refine hkn.mono ?_; rintro e w1 ⟨rfl, hk1⟩)
    go_ret
    exact ⟨rfl, hk1.below⟩

set_option maxRecDepth 100000 in
theorem lifted (os : Os) (started : os.Started) (H : Type) (enc : TypeId × Value → H) :
    ReturnsInHanded {} Try.checked os 3 .any (Rows.placeOrderSpec.pre6 enc Try.prog Try.f3 Rows.placeOrderRow.domain false) (Rows.placeOrderSpec.post enc Try.prog Try.f3 false true false false) := by
  refine returnsInHanded_of_change (C := Try.checked) own started (by kernel_rfl) Try.func3
    (ChangeSpec.witness6 (enc := enc) (C := Try.checked) false ⟨#[], #[.string ByteArray.empty, .int .u16 0, .int .u16 0], []⟩ 8 (by kernel_rfl) (by kernel_rfl) (by kernel_rfl) (by kernel_rfl)) ?_
  intro W base args ds gs before hval0 hW hcnd _
  have hval : ∀ (j : Nat) t v, Try.f3.params[j]? = some t → args[j]? = some v → Value.okWide Try.prog W .any base t v := hval0
  have hW' := hW
  obtain ⟨p, q, hA0, hV, rfl, hfz, hnd⟩ := hW
  have hA : DataW.TrodAll enc Try.prog W 0 (fun _ => true) true Try.f3.params.toList args.toList ds p := hA0
  rw [Try.params3] at hA hval
  obtain ⟨v0, vs0, d0, ds0, p0, q0, hargs, rfl, rfl, h0, r0⟩ := trodAll_cons hA
  obtain ⟨v1, vs1, d1, ds1, p1, q1, rfl, rfl, rfl, h1, r1⟩ := trodAll_cons r0
  obtain ⟨v2, vs2, d2, ds2, p2, q2, rfl, rfl, rfl, h2, r2⟩ := trodAll_cons r1
  obtain ⟨rfl, rfl, rfl⟩ := trodAll_nil r2
  obtain rfl : args = #[v0, v1, v2] := by cases args; simp_all
  obtain ⟨rfl, rfl⟩ := trodVars_none hV
  obtain ⟨a0, rfl, rfl, rfl, w0⟩ := open_string Try.underlying9 (hval 0 9 v0 rfl rfl) h0
  obtain ⟨a1, rfl, rfl, rfl, w1⟩ := open_int Try.underlying22 (hval 1 22 v1 rfl rfl) h1
  obtain ⟨a2, rfl, rfl, rfl, w2⟩ := open_int Try.underlying22 (hval 2 22 v2 rfl rfl) h2
  clear hA0 hval0
  refine (walk a0 a1 a2 w0 w1 w2 W).mono fun e W' ⟨he, bel⟩ => ?_
  subst he
  exact ⟨_, rfl, _, _, _, [], _, [], hW', trodAll_mk1 (shut_bool Try.underlying4 _), (trodAll_cons_mk (shut_string Try.underlying9 w0) (trodAll_cons_mk (shut_int Try.underlying22 w1) (trodAll_cons_mk (shut_int Try.underlying22 w2) trodAll_mk0))), rfl, bel.frame _, fun h => by cases h⟩

theorem over : Rows.placeOrderRow.holds Try.pinned (OpenSpec.ofChange Rows.placeOrderSpec) :=
  OpenClaim.holds_of_wide 3 Try.f3 rfl rfl rfl rfl rfl rfl rfl ⟨rfl, rfl, rfl, rfl, rfl⟩ rfl rfl rfl rfl rfl (by kernel_rfl) Try.func3 (by kernel_rfl)
    (of_decide_eq_true (by kernel_rfl)) (by unfold Func.isWrapper; first | (rw [if_pos (by decide +kernel)]; kernel_rfl) | (rw [if_neg (by decide +kernel)]; exact ⟨rfl, rfl⟩))
    (fun os started H enc _ => lifted os started H enc)

theorem proved : Rows.PlaceOrderSaid :=
  over
#print axioms proved
end Go.Proofs.Ytinmabjcjdeekab.placeOrder

namespace Go.Proofs.Ytinmabjcjdeekab
theorem placeOrder_holds : Rows.PlaceOrderSaid := placeOrder.proved
#print axioms placeOrder_holds
end Go.Proofs.Ytinmabjcjdeekab
