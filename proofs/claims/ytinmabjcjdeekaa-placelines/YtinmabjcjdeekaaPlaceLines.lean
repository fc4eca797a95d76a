/-
  For every text and every number the Go function portierelaw02.PlaceLines returns true, and its arguments read afterwards as before.
-/
import Derived.Test.YtinmabjcjdeekaaRows
import Derived.Test.YtinmabjcjdeekaaFacts
import Derived.Test.YtinmabjcjdeekaaKnown
import Derived.WalkKit
import Derived.ProofKit
import Derived.OpenShut
import Derived.ShutString
namespace Go.Proofs.Ytinmabjcjdeekaa.placeLines
open Go.ChangeShapes Go.WideShapes Go.ChangeAt Go.RowKit
open Go.ChangeMaps (open_string shut_string)
set_option linter.unusedVariables false

theorem own : ownKnob Try.prog.godebug = none := by kernel_rfl

theorem walk (a0 : ByteArray) (a1 : Int) (w0 : a0.size ≤ maxLen) (w1 : (Lit.int .i64 a1).wf = true) (w : World) :
    Calls Try.prog 8 #[.string a0, .int .i64 a1] w fun e w' => e = .returned (.bool true) ∧ Below w.heap.size w w' := by
  have hK : ∀ k, (fun k => k < w.heap.size) k → k < w.heap.size := fun k h => h
  have hkn := known_any (fun k => k < w.heap.size) w hK
  by_cases hz : a0.size ≤ 2000
  · have e0 : decide ((a0.size : Int) > 2000) = false := by simp; omega
    by_cases hz0 : a0.size = 0
    · have e1 : ((a0.size : Int) == 0) = true := by rw [hz0]; rfl
      clear hz0
      go_enter Try.func8, Try.ntmps8
      go_wp2_with (go_at_call 9; refine hkn.mono ?_; rintro e w1 ⟨rfl, hk1⟩)
      go_ret
      exact ⟨rfl, hk1.below⟩
    have e1 : ((a0.size : Int) == 0) = false := beq_eq_false_iff_ne.2 (by omega)
    obtain ⟨n, hn⟩ : ∃ n, n = a1.toNat % a0.size := ⟨_, rfl⟩
    have hns : n < a0.size := by rw [hn]; exact Nat.mod_lt _ (Nat.pos_of_ne_zero hz0)
    have HN : Hid (n = a1.toNat % a0.size) := hn
    clear hn
    have hat := fun X hX => at_any a0 n (fun k => k < w.heap.size) X hX (by omega)
    rw [clip_le (Nat.le_of_lt hns)] at hat
    have hat2 := fun X hX => at_any a0 (n + 1) (fun k => k < w.heap.size) X hX (by omega)
    rw [show clip a0 ((n : Int) + 1) = n + 1 from clip_le (k := n + 1) hns, spot_step a0 n hns] at hat2
    have hle := spot_le (a0.data.toList.take n)
    rw [List.length_take] at hle
    obtain ⟨⟨l, c⟩, hS⟩ : ∃ q, q = spot (a0.data.toList.take n) := ⟨_, rfl⟩
    rw [← hS] at hat hat2 hle
    have hl1 : l < 1000000 := by have := hle.1; simp at this; omega
    have hl2 : c < 1000000 := by have := hle.2; simp at this; omega
    have e2 : (n : Int) < (a0.size : Int) := by omega
    clear hS hle
    go_enter Try.func8, Try.ntmps8
    go_wp2_with fail
    refine hkn.mono ?_
    rintro e w1 ⟨rfl, hk1⟩
    go_upto_region 3 with fail
    go_cut [5] (fun s5 wc => s5 = .int .i64 (n : Int) ∧ wc = w1)
    case first =>
      have hn := HN.out
      have e4 : ¬ (a0.size : Int) = 0 := by omega
      by_cases h1 : a1 < 0
      · obtain rfl : n = 0 := by rw [hn, Int.toNat_of_nonpos (by omega)]; simp
        clear hn
        go_wp2
        go_meet
        case rel => exact ⟨rfl, rfl⟩
      · obtain ⟨z, rfl⟩ : ∃ z : Nat, a1 = (z : Int) := ⟨a1.toNat, by omega⟩
        simp only [Int.toNat_natCast] at hn
        clear HN
        subst hn
        go_wp2
        go_meet
        case rel => exact ⟨rfl, rfl⟩
    case rest =>
      obtain ⟨rfl, rfl⟩ := hcut
      go_wp2_with fail
      refine (hat wc fun k hk => Nat.lt_of_lt_of_le hk hk1.size).mono ?_
      rintro e w2 ⟨rfl, hk2⟩
      go_wp2_with fail
      refine (hat2 w2 fun k hk => Nat.lt_of_lt_of_le hk (hk1.trans hk2).size).mono ?_
      rintro e w3 ⟨rfl, hk3⟩
      have hkk := (hk1.trans hk2).trans hk3
      clear hat hat2 hkn hk1 hk2 hk3 HN hz hK
      by_cases g1 : a0[n].toNat = 10
      · have HP : past (l, c) a0[n] = (l + 1, 1) := by simp [past, g1]
        have e4 : ((a0[n].toNat : Int) == 10) = true := by simp; omega
        rw [HP]
        clear g1 HP
        go_wp2
        go_ret
        exact ⟨rfl, hkk.below⟩
      · have e4 : ((a0[n].toNat : Int) == 10) = false := by simp; omega
        by_cases g2 : 128 ≤ a0[n].toNat
        · have e5 : decide ((a0[n].toNat : Int) ≥ 128) = true := by simp; omega
          by_cases g3 : a0[n].toNat ≤ 191
          · have e6 : decide ((a0[n].toNat : Int) ≤ 191) = true := by simp; omega
            have HP : past (l, c) a0[n] = (l, c) := by simp [past, g1, g2, g3]
            rw [HP]
            clear g1 g2 g3 HP
            go_wp2
            go_ret
            exact ⟨rfl, hkk.below⟩
          · have e6 : decide ((a0[n].toNat : Int) ≤ 191) = false := by simp; omega
            have HP : past (l, c) a0[n] = (l, c + 1) := by simp [past, g1, g2, g3]
            rw [HP]
            clear g1 g2 g3 HP
            go_wp2
            go_ret
            exact ⟨rfl, hkk.below⟩
        · have e5 : decide ((a0[n].toNat : Int) ≥ 128) = false := by simp; omega
          have HP : past (l, c) a0[n] = (l, c + 1) := by simp [past, g1, g2]
          rw [HP]
          clear g1 g2 HP
          go_wp2
          go_ret
          exact ⟨rfl, hkk.below⟩
  · have e0 : decide ((a0.size : Int) > 2000) = true := by simp; omega
    go_enter Try.func8, Try.ntmps8
    go_wp2_with (go_at_call 9; refine hkn.mono ?_; rintro e w1 ⟨rfl, hk1⟩)
    go_ret
    exact ⟨rfl, hk1.below⟩

set_option maxRecDepth 100000 in
theorem lifted (os : Os) (started : os.Started) (H : Type) (enc : TypeId × Value → H) :
    ReturnsInHanded {} Try.checked os 8 .any (Rows.placeLinesSpec.pre6 enc Try.prog Try.f8 Rows.placeLinesRow.domain false) (Rows.placeLinesSpec.post enc Try.prog Try.f8 false true false false) := by
  refine returnsInHanded_of_change (C := Try.checked) own started (by kernel_rfl) Try.func8
    (ChangeSpec.witness6 (enc := enc) (C := Try.checked) false ⟨#[], #[.string ByteArray.empty, .int .i64 0], []⟩ 8 (by kernel_rfl) (by kernel_rfl) (by kernel_rfl) (by kernel_rfl)) ?_
  intro W base args ds gs before hval0 hW hcnd _
  have hval : ∀ (j : Nat) t v, Try.f8.params[j]? = some t → args[j]? = some v → Value.okWide Try.prog W .any base t v := hval0
  have hW' := hW
  obtain ⟨p, q, hA0, hV, rfl, hfz, hnd⟩ := hW
  have hA : DataW.TrodAll enc Try.prog W 0 (fun _ => true) true Try.f8.params.toList args.toList ds p := hA0
  rw [Try.params8] at hA hval
  obtain ⟨v0, vs0, d0, ds0, p0, q0, hargs, rfl, rfl, h0, r0⟩ := trodAll_cons hA
  obtain ⟨v1, vs1, d1, ds1, p1, q1, rfl, rfl, rfl, h1, r1⟩ := trodAll_cons r0
  obtain ⟨rfl, rfl, rfl⟩ := trodAll_nil r1
  obtain rfl : args = #[v0, v1] := by cases args; simp_all
  obtain ⟨rfl, rfl⟩ := trodVars_none hV
  obtain ⟨a0, rfl, rfl, rfl, w0⟩ := open_string Try.underlying9 (hval 0 9 v0 rfl rfl) h0
  obtain ⟨a1, rfl, rfl, rfl, w1⟩ := open_int Try.underlying3 (hval 1 3 v1 rfl rfl) h1
  clear hA0 hval0
  refine (walk a0 a1 w0 w1 W).mono fun e W' ⟨he, bel⟩ => ?_
  subst he
  exact ⟨_, rfl, _, _, _, [], _, [], hW', trodAll_mk1 (shut_bool Try.underlying4 _), (trodAll_cons_mk (shut_string Try.underlying9 w0) (trodAll_cons_mk (shut_int Try.underlying3 w1) trodAll_mk0)), rfl, bel.frame _, fun h => by cases h⟩

theorem over : Rows.placeLinesRow.holds Try.pinned (OpenSpec.ofChange Rows.placeLinesSpec) :=
  OpenClaim.holds_of_wide 8 Try.f8 rfl rfl rfl rfl rfl rfl rfl ⟨rfl, rfl, rfl, rfl, rfl⟩ rfl rfl rfl rfl rfl (by kernel_rfl) Try.func8 (by kernel_rfl)
    (of_decide_eq_true (by kernel_rfl)) (by unfold Func.isWrapper; first | (rw [if_pos (by decide +kernel)]; kernel_rfl) | (rw [if_neg (by decide +kernel)]; exact ⟨rfl, rfl⟩))
    (fun os started H enc _ => lifted os started H enc)

theorem proved : Rows.PlaceLinesSaid :=
  over
#print axioms proved
end Go.Proofs.Ytinmabjcjdeekaa.placeLines

namespace Go.Proofs.Ytinmabjcjdeekaa
theorem placeLines_holds : Rows.PlaceLinesSaid := placeLines.proved
#print axioms placeLines_holds
end Go.Proofs.Ytinmabjcjdeekaa
