/-
  For every text and every number the Go function portierelaw02.PlaceMany returns true, and its arguments read afterwards as before.
-/
import Derived.Test.YtinmabjcjdeekaaRows
import Derived.Test.YtinmabjcjdeekaaFacts
import Derived.Test.YtinmabjcjdeekaaKnown
import Derived.WalkKit
import Derived.ProofKit
import Derived.OpenShut
import Derived.ShutString
namespace Go.Proofs.Ytinmabjcjdeekaa.placeMany
open Go.ChangeShapes Go.WideShapes Go.ChangeAt Go.RowKit
open Go.ChangeMaps (open_string shut_string)
set_option linter.unusedVariables false

theorem own : ownKnob Try.prog.godebug = none := by kernel_rfl

theorem walk (a0 : ByteArray) (a1 : Int) (w0 : a0.size ≤ maxLen) (w1 : (Lit.int .u16 a1).wf = true) (w : World) :
    Calls Try.prog 3 #[.string a0, .int .u16 a1] w fun e w' => e = .returned (.bool true) ∧ Below w.heap.size w w' := by
  have hK : ∀ k, (fun k => k < w.heap.size) k → k < w.heap.size := fun k h => h
  have hkn := known_any (fun k => k < w.heap.size) w hK
  by_cases hz : a0.size ≤ 2000
  · have e0 : decide ((a0.size : Int) > 2000) = false := by simp; omega
    have hw := wf_u16 w1
    obtain ⟨z, rfl⟩ : ∃ z : Nat, a1 = (z : Int) := ⟨a1.toNat, by omega⟩
    have hz16 : (z : Int) ≤ 65535 := by omega
    have hle := ends_le a0.data.toList
    rw [size_toList] at hle
    obtain ⟨E, hE⟩ : ∃ E, E = ends a0.data.toList := ⟨_, rfl⟩
    have hline : (spot a0.data.toList).1 = E := by rw [spot_line, hE]
    have hcol := (spot_le a0.data.toList).2
    rw [size_toList] at hcol
    obtain ⟨c, hc⟩ : ∃ c, c = (spot a0.data.toList).2 := ⟨_, rfl⟩
    have hall : a0.data.toList.take a0.size = a0.data.toList := List.take_of_length_le (by rw [size_toList]; exact Nat.le_refl _)
    have h1 := fun X hX => at_any a0 a0.size (fun k => k < w.heap.size) X hX (by omega)
    rw [clip_le (Nat.le_refl _), hall, hline, ← hc] at h1
    have h2 := fun X hX => at_any a0 (a0.size + z) (fun k => k < w.heap.size) X hX (by omega)
    rw [show clip a0 ((a0.size : Int) + z) = a0.size by simp only [clip]; omega, hall, hline, ← hc] at h2
    have h3 := fun X hX => at_any a0 (-z) (fun k => k < w.heap.size) X hX (by omega)
    rw [show clip a0 (-(z : Int)) = 0 by simp only [clip]; omega] at h3
    have h4 := fun X hX => of_any a0 (E + 1) 1 (fun k => k < w.heap.size) X hX (by omega)
    rw [ofS_none (s := a0) (line := E + 1) (col := 1) (fun j hj => by
      have := spot_after a0.data.toList j a0.size hj
      rw [hall] at this
      unfold After at this
      have h : ((spot (a0.data.toList.take j)).1 : Int) ≠ (E : Int) + 1 := by omega
      simp [hit, h])] at h4
    have h5 := fun X hX => of_any a0 0 1 (fun k => k < w.heap.size) X hX (by omega)
    rw [ofS_none (s := a0) (line := 0) (col := 1) (fun j hj => by
      have := (spot_ge (a0.data.toList.take j)).1
      have h : ((spot (a0.data.toList.take j)).1 : Int) ≠ 0 := by omega
      simp only [hit, decide_eq_false h, Bool.false_and])] at h5
    have HE : Hid (ends (a0.data.toList.take a0.size) = E) := by rw [hall, ← hE]; exact rfl
    rw [← hE] at hle
    clear hline hcol hc hall hE w1 hw
    go_enter Try.func3, Try.ntmps3
    go_wp2_with fail
    refine hkn.mono ?_
    rintro e w1 ⟨rfl, hk1⟩
    go_wp2
    go_loop [6, 5] (fun kv nv => ∃ k : Nat, k ≤ a0.size ∧ kv = .int .i64 k ∧ nv = .int .i64 (ends (a0.data.toList.take k) : Int)) (fun kv _ => a0.size - (intOf kv).toNat)
    case atStart => exact ⟨0, by omega, rfl, rfl⟩
    case round =>
      obtain ⟨k, hk, rfl, rfl⟩ := hrel
      by_cases hlt : k < a0.size
      · clear h1 h2 h3 h4 h5 hkn
        have e1 : (k : Int) < (a0.size : Int) := by omega
        have hst := ends_step a0 k hlt
        have hle2 := ends_le (a0.data.toList.take k)
        rw [List.length_take] at hle2
        obtain ⟨n, hn⟩ : ∃ n, n = ends (a0.data.toList.take k) := ⟨_, rfl⟩
        rw [← hn] at hst hle2 ⊢
        have hn1 : n < 1000000 := by omega
        have HST : Hid (ends (a0.data.toList.take (k + 1)) = if a0[k].toNat = 10 then n + 1 else n) := hst
        clear hn hst hle2
        by_cases g1 : a0[k].toNat = 10
        · have e4 : ((a0[k].toNat : Int) == 10) = true := by simp; omega
          have HS2 : Hid (ends (a0.data.toList.take (k + 1)) = n + 1) := HST.out.trans (if_pos g1)
          clear g1 HST
          go_wp2
          go_round
          case rel => exact ⟨k + 1, by omega, by go_num, by rw [HS2.out]; go_num⟩
          case measure => simp [intOf]; omega
        · have e4 : ((a0[k].toNat : Int) == 10) = false := by simp; omega
          have HS2 : Hid (ends (a0.data.toList.take (k + 1)) = n) := HST.out.trans (if_neg g1)
          clear g1 HST
          go_wp2
          go_round
          case rel => exact ⟨k + 1, by omega, by go_num, by rw [HS2.out]⟩
          case measure => simp [intOf]; omega
      · obtain rfl : k = a0.size := by omega
        rw [HE.out]
        clear HE hkn
        go_wp2_with fail
        refine (h1 w1 fun k hk => Nat.lt_of_lt_of_le hk hk1.size).mono ?_
        rintro e w2 ⟨rfl, hk2⟩
        have hkk2 := hk1.trans hk2
        clear hk1 hk2 h1
        go_wp2_with fail
        refine (h2 w2 fun k hk => Nat.lt_of_lt_of_le hk hkk2.size).mono ?_
        rintro e w3 ⟨rfl, hk3⟩
        have hkk3 := hkk2.trans hk3
        clear hk3 hkk2 h2
        go_wp2_with fail
        refine (h3 w3 fun k hk => Nat.lt_of_lt_of_le hk hkk3.size).mono ?_
        rintro e w4 ⟨rfl, hk4⟩
        have hkk4 := hkk3.trans hk4
        clear hk4 hkk3 h3
        go_wp2_with fail
        refine (h4 w4 fun k hk => Nat.lt_of_lt_of_le hk hkk4.size).mono ?_
        rintro e w5 ⟨rfl, hk5⟩
        have hkk5 := hkk4.trans hk5
        clear hk5 hkk4 h4
        go_wp2_with fail
        refine (h5 w5 fun k hk => Nat.lt_of_lt_of_le hk hkk5.size).mono ?_
        rintro e w6 ⟨rfl, hk6⟩
        have hkk6 := hkk5.trans hk6
        clear hk6 hkk5 h5
        go_wp2
        go_ret
        exact ⟨rfl, hkk6.below⟩
  · have e0 : decide ((a0.size : Int) > 2000) = true := by simp; omega
    go_enter Try.func3, Try.ntmps3
    go_wp2_with (go_at_call 9; refine hkn.mono ?_; rintro e w1 ⟨rfl, hk1⟩)
    go_ret
    exact ⟨rfl, hk1.below⟩

set_option maxRecDepth 100000 in
theorem lifted (os : Os) (started : os.Started) (H : Type) (enc : TypeId × Value → H) :
    ReturnsInHanded {} Try.checked os 3 .any (Rows.placeManySpec.pre6 enc Try.prog Try.f3 Rows.placeManyRow.domain false) (Rows.placeManySpec.post enc Try.prog Try.f3 false true false false) := by
  refine returnsInHanded_of_change (C := Try.checked) own started (by kernel_rfl) Try.func3
    (ChangeSpec.witness6 (enc := enc) (C := Try.checked) false ⟨#[], #[.string ByteArray.empty, .int .u16 0], []⟩ 8 (by kernel_rfl) (by kernel_rfl) (by kernel_rfl) (by kernel_rfl)) ?_
  intro W base args ds gs before hval0 hW hcnd _
  have hval : ∀ (j : Nat) t v, Try.f3.params[j]? = some t → args[j]? = some v → Value.okWide Try.prog W .any base t v := hval0
  have hW' := hW
  obtain ⟨p, q, hA0, hV, rfl, hfz, hnd⟩ := hW
  have hA : DataW.TrodAll enc Try.prog W 0 (fun _ => true) true Try.f3.params.toList args.toList ds p := hA0
  rw [Try.params3] at hA hval
  obtain ⟨v0, vs0, d0, ds0, p0, q0, hargs, rfl, rfl, h0, r0⟩ := trodAll_cons hA
  obtain ⟨v1, vs1, d1, ds1, p1, q1, rfl, rfl, rfl, h1, r1⟩ := trodAll_cons r0
  obtain ⟨rfl, rfl, rfl⟩ := trodAll_nil r1
  obtain rfl : args = #[v0, v1] := by cases args; simp_all
  obtain ⟨rfl, rfl⟩ := trodVars_none hV
  obtain ⟨a0, rfl, rfl, rfl, w0⟩ := open_string Try.underlying9 (hval 0 9 v0 rfl rfl) h0
  obtain ⟨a1, rfl, rfl, rfl, w1⟩ := open_int Try.underlying22 (hval 1 22 v1 rfl rfl) h1
  clear hA0 hval0
  refine (walk a0 a1 w0 w1 W).mono fun e W' ⟨he, bel⟩ => ?_
  subst he
  exact ⟨_, rfl, _, _, _, [], _, [], hW', trodAll_mk1 (shut_bool Try.underlying4 _), (trodAll_cons_mk (shut_string Try.underlying9 w0) (trodAll_cons_mk (shut_int Try.underlying22 w1) trodAll_mk0)), rfl, bel.frame _, fun h => by cases h⟩

theorem over : Rows.placeManyRow.holds Try.pinned (OpenSpec.ofChange Rows.placeManySpec) :=
  OpenClaim.holds_of_wide 3 Try.f3 rfl rfl rfl rfl rfl rfl rfl ⟨rfl, rfl, rfl, rfl, rfl⟩ rfl rfl rfl rfl rfl (by kernel_rfl) Try.func3 (by kernel_rfl)
    (of_decide_eq_true (by kernel_rfl)) (by unfold Func.isWrapper; first | (rw [if_pos (by decide +kernel)]; kernel_rfl) | (rw [if_neg (by decide +kernel)]; exact ⟨rfl, rfl⟩))
    (fun os started H enc _ => lifted os started H enc)

theorem proved : Rows.PlaceManySaid :=
  over
#print axioms proved
end Go.Proofs.Ytinmabjcjdeekaa.placeMany

namespace Go.Proofs.Ytinmabjcjdeekaa
theorem placeMany_holds : Rows.PlaceManySaid := placeMany.proved
#print axioms placeMany_holds
end Go.Proofs.Ytinmabjcjdeekaa
