/-
  For every text and every number the Go function portierelaw02.PlaceBack returns true, and its arguments read afterwards as before.
-/
import Derived.Test.YtinmabjcjdeekaaRows
import Derived.Test.YtinmabjcjdeekaaFacts
import Derived.Test.YtinmabjcjdeekaaKnown
import Derived.WalkKit
import Derived.ProofKit
import Derived.OpenShut
import Derived.ShutString
namespace Go.Proofs.Ytinmabjcjdeekaa.placeBack
open Go.ChangeShapes Go.WideShapes Go.ChangeAt Go.RowKit
open Go.ChangeMaps (open_string shut_string)
set_option linter.unusedVariables false

theorem own : ownKnob Try.prog.godebug = none := by kernel_rfl

theorem walk (a0 : ByteArray) (a1 : Int) (w0 : a0.size ≤ maxLen) (w1 : (Lit.int .i64 a1).wf = true) (w : World) :
    Calls Try.prog 7 #[.string a0, .int .i64 a1] w fun e w' => e = .returned (.bool true) ∧ Below w.heap.size w w' := by
  have hK : ∀ k, (fun k => k < w.heap.size) k → k < w.heap.size := fun k h => h
  by_cases hz : a0.size ≤ 2000
  · have e0 : decide ((a0.size : Int) > 2000) = false := by simp; omega
    have hkn := known_any (fun k => k < w.heap.size) w hK
    obtain ⟨n, hn⟩ : ∃ n, n = a1.toNat % (a0.size + 1) := ⟨_, rfl⟩
    have hns : n ≤ a0.size := Nat.le_of_lt_succ (by rw [hn]; exact Nat.mod_lt _ (Nat.succ_pos _))
    have HN : Hid (n = a1.toNat % (a0.size + 1)) := hn
    clear hn
    have hat := fun X hX => at_any a0 n (fun k => k < w.heap.size) X hX (by omega)
    rw [clip_le hns] at hat
    obtain ⟨⟨l, c⟩, hS⟩ : ∃ q, q = spot (a0.data.toList.take n) := ⟨_, rfl⟩
    obtain ⟨m, hm, hmn, hhit⟩ := ofS_hit (s := a0) (line := l) (col := c) hns (by rw [hit_iff, ← hS]; exact ⟨rfl, rfl⟩)
    have hof := fun X hX => of_any a0 l c (fun k => k < w.heap.size) X hX (by omega)
    rw [hm] at hof
    have hat2 := fun X hX => at_any a0 m (fun k => k < w.heap.size) X hX (by omega)
    rw [clip_le (Nat.le_trans hmn hns), (hit_iff.1 hhit).1, (hit_iff.1 hhit).2] at hat2
    rw [← hS] at hat
    have hge := spot_ge (a0.data.toList.take n)
    rw [← hS] at hge
    have g1 : (1 : Int) ≤ (l : Int) := by have := hge.1; simp at this; omega
    have g2 : (1 : Int) ≤ (c : Int) := by have := hge.2; simp at this; omega
    have g3 : (m : Int) ≤ (n : Int) := by omega
    clear hS hm hhit hge
    go_enter Try.func7, Try.ntmps7
    go_wp2_with fail
    refine hkn.mono ?_
    rintro e w1 ⟨rfl, hk1⟩
    go_upto_region 3 with fail
    go_cut [5] (fun s5 wc => s5 = .int .i64 (n : Int) ∧ wc = w1)
    case first =>
      have hn := HN.out
      by_cases h1 : a1 < 0
      · obtain rfl : n = 0 := by rw [hn, Int.toNat_of_nonpos (by omega)]; simp
        clear hn
        go_wp2
        go_meet
        case rel => exact ⟨rfl, rfl⟩
      · obtain ⟨z, rfl⟩ : ∃ z : Nat, a1 = (z : Int) := ⟨a1.toNat, by omega⟩
        simp only [Int.toNat_natCast] at hn
        clear HN
        subst hn
        go_wp2
        go_meet
        case rel => exact ⟨rfl, rfl⟩
    case rest =>
      obtain ⟨rfl, rfl⟩ := hcut
      go_wp2_with fail
      refine (hat wc fun k hk => Nat.lt_of_lt_of_le hk hk1.size).mono ?_
      rintro e w2 ⟨rfl, hk2⟩
      go_wp2_with fail
      refine (hof w2 fun k hk => Nat.lt_of_lt_of_le hk (hk1.trans hk2).size).mono ?_
      rintro e w3 ⟨rfl, hk3⟩
      go_wp2_with fail
      refine (hat2 w3 fun k hk => Nat.lt_of_lt_of_le hk ((hk1.trans hk2).trans hk3).size).mono ?_
      rintro e w4 ⟨rfl, hk4⟩
      go_wp2
      go_ret
      exact ⟨rfl, (((hk1.trans hk2).trans hk3).trans hk4).below⟩
  · have e0 : decide ((a0.size : Int) > 2000) = true := by simp; omega
    have hkn := known_any (fun k => k < w.heap.size) w hK
    go_enter Try.func7, Try.ntmps7
    go_wp2_with (go_at_call 9; refine hkn.mono ?_; rintro e w1 ⟨rfl, hk1⟩)
    go_ret
    exact ⟨rfl, hk1.below⟩

set_option maxRecDepth 100000 in
theorem lifted (os : Os) (started : os.Started) (H : Type) (enc : TypeId × Value → H) :
    ReturnsInHanded {} Try.checked os 7 .any (Rows.placeBackSpec.pre6 enc Try.prog Try.f7 Rows.placeBackRow.domain false) (Rows.placeBackSpec.post enc Try.prog Try.f7 false true false false) := by
  refine returnsInHanded_of_change (C := Try.checked) own started (by kernel_rfl) Try.func7
    (ChangeSpec.witness6 (enc := enc) (C := Try.checked) false ⟨#[], #[.string ByteArray.empty, .int .i64 0], []⟩ 8 (by kernel_rfl) (by kernel_rfl) (by kernel_rfl) (by kernel_rfl)) ?_
  intro W base args ds gs before hval0 hW hcnd _
  have hval : ∀ (j : Nat) t v, Try.f7.params[j]? = some t → args[j]? = some v → Value.okWide Try.prog W .any base t v := hval0
  have hW' := hW
  obtain ⟨p, q, hA0, hV, rfl, hfz, hnd⟩ := hW
  have hA : DataW.TrodAll enc Try.prog W 0 (fun _ => true) true Try.f7.params.toList args.toList ds p := hA0
  rw [Try.params7] at hA hval
  obtain ⟨v0, vs0, d0, ds0, p0, q0, hargs, rfl, rfl, h0, r0⟩ := trodAll_cons hA
  obtain ⟨v1, vs1, d1, ds1, p1, q1, rfl, rfl, rfl, h1, r1⟩ := trodAll_cons r0
  obtain ⟨rfl, rfl, rfl⟩ := trodAll_nil r1
  obtain rfl : args = #[v0, v1] := by cases args; simp_all
  obtain ⟨rfl, rfl⟩ := trodVars_none hV
  obtain ⟨a0, rfl, rfl, rfl, w0⟩ := open_string Try.underlying9 (hval 0 9 v0 rfl rfl) h0
  obtain ⟨a1, rfl, rfl, rfl, w1⟩ := open_int Try.underlying3 (hval 1 3 v1 rfl rfl) h1
  clear hA0 hval0
  refine (walk a0 a1 w0 w1 W).mono fun e W' ⟨he, bel⟩ => ?_
  subst he
  exact ⟨_, rfl, _, _, _, [], _, [], hW', trodAll_mk1 (shut_bool Try.underlying4 _), (trodAll_cons_mk (shut_string Try.underlying9 w0) (trodAll_cons_mk (shut_int Try.underlying3 w1) trodAll_mk0)), rfl, bel.frame _, fun h => by cases h⟩

theorem over : Rows.placeBackRow.holds Try.pinned (OpenSpec.ofChange Rows.placeBackSpec) :=
  OpenClaim.holds_of_wide 7 Try.f7 rfl rfl rfl rfl rfl rfl rfl ⟨rfl, rfl, rfl, rfl, rfl⟩ rfl rfl rfl rfl rfl (by kernel_rfl) Try.func7 (by kernel_rfl)
    (of_decide_eq_true (by kernel_rfl)) (by unfold Func.isWrapper; first | (rw [if_pos (by decide +kernel)]; kernel_rfl) | (rw [if_neg (by decide +kernel)]; exact ⟨rfl, rfl⟩))
    (fun os started H enc _ => lifted os started H enc)

theorem proved : Rows.PlaceBackSaid :=
  over
#print axioms proved
end Go.Proofs.Ytinmabjcjdeekaa.placeBack

namespace Go.Proofs.Ytinmabjcjdeekaa
theorem placeBack_holds : Rows.PlaceBackSaid := placeBack.proved
#print axioms placeBack_holds
end Go.Proofs.Ytinmabjcjdeekaa
