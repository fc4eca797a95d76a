/-
  For every two texts the Go function portierelaw04.CharrefParts returns true, and its arguments read afterwards as before; the two tables of the program are tied to its text.
-/
import Derived.Test.YtndlififfofcmaaDoorRows
import Derived.Test.YtndlififfofcmaaDoorLaid
import Derived.Test.YtndlififfofcmaaDoorKnown
import Derived.Test.YtndlififfofcmaaDoorFacts
import Derived.Test.YtndlififfofcmaaDoorCards
import Derived.Test.YtndlififfofcmaaDoorTie
import Derived.SevenTiedAt
import Derived.WalkKit
import Derived.ProofKit
import Derived.OpenShut
import Derived.ShutString
namespace Go.Proofs.YtndlififfofcmaaDoor.charrefParts
open Go.ChangeShapes Go.WideShapes Go.ChangeAt Go.RowKit
open Go.ChangeMaps (open_string shut_string)
set_option linter.unusedVariables false

set_option maxRecDepth 20000 in
set_option maxHeartbeats 4000000 in
theorem walk (a0 : ByteArray) (a1 : ByteArray) (w0 : a0.size ≤ maxLen) (w1 : a1.size ≤ maxLen) (w : World) (hT : Tab w) (h2 : 1 < w.heap.size) :
    Calls Tryd.prog 3 #[.string a0, .string a1] w fun e w' => e = .returned (.bool true) ∧ Below w.heap.size w w' := by
  obtain ⟨K, hKe⟩ : ∃ K : Nat → Prop, (fun k => k < w.heap.size) = K := ⟨_, rfl⟩
  have hK : ∀ k, K k → k < w.heap.size := by
    rw [← hKe]
    exact fun k h => h
  have hfin : ∀ X, Kept K w X → Below w.heap.size w X := by
    rw [← hKe]
    exact fun _ h => h.below
  have k0 : K 0 := by
    rw [← hKe]
    show 0 < w.heap.size
    omega
  have k1 : K 1 := by
    rw [← hKe]
    exact h2
  clear hKe
  have hkn := fun X hX hXT => known_any K X hX hXT k0 k1
  by_cases hz : a0.size ≤ 500
  · have e0 : decide ((a0.size : Int) > 500) = false := by simp; omega
    by_cases hz1 : a1.size ≤ 500
    · have e1 : decide ((a1.size : Int) > 500) = false := by simp; omega
      have hs : (a0 ++ ⟨#[32]⟩ ++ a1 : ByteArray).size ≤ 1001 := by
        rw [ByteArray.size_append, ByteArray.size_append]
        show a0.size + 1 + a1.size ≤ 1001
        omega
      have hA : (⟨(allL false (a0 ++ ⟨#[32]⟩ ++ a1 : ByteArray).data.toList).toArray⟩ : ByteArray) = ⟨(allL false a0.data.toList).toArray⟩ ++ ⟨#[32]⟩ ++ ⟨(allL false a1.data.toList).toArray⟩ := by
        rw [ByteArray.data_append, ByteArray.data_append, Array.toList_append, Array.toList_append]
        have e : a0.data.toList ++ [32] ++ a1.data.toList = a0.data.toList ++ 32 :: a1.data.toList := by simp
        rw [show (ByteArray.mk #[32]).data.toList = [32] from rfl, e, all_parts _ _ _ (Nat.le_refl _)]
        apply ByteArray.ext
        rw [ByteArray.data_append, ByteArray.data_append]
        simp
      have h1 := fun X hX hXT => all_any (a0 ++ ⟨#[32]⟩ ++ a1) false K X hX (by omega) hXT k0 k1
      rw [hA] at h1
      have h3 := fun X hX hXT => all_any a0 false K X hX (by omega) hXT k0 k1
      have h4 := fun X hX hXT => all_any a1 false K X hX (by omega) hXT k0 k1
      have l0 := all_length false a0.data.toList
      have l1 := all_length false a1.data.toList
      have s0 : (⟨(allL false a0.data.toList).toArray⟩ : ByteArray).size ≤ 2000 := by
        show (allL false a0.data.toList).toArray.size ≤ 2000
        rw [List.size_toArray]
        have : a0.data.toList.length = a0.size := rfl
        omega
      have s1 : (⟨(allL false a1.data.toList).toArray⟩ : ByteArray).size ≤ 2000 := by
        show (allL false a1.data.toList).toArray.size ≤ 2000
        rw [List.size_toArray]
        have : a1.data.toList.length = a1.size := rfl
        omega
      obtain ⟨A0, hA0⟩ : ∃ R : ByteArray, (⟨(allL false a0.data.toList).toArray⟩ : ByteArray) = R := ⟨_, rfl⟩
      obtain ⟨A1, hA1⟩ : ∃ R : ByteArray, (⟨(allL false a1.data.toList).toArray⟩ : ByteArray) = R := ⟨_, rfl⟩
      rw [hA0, hA1] at h1
      rw [hA0] at h3 s0
      rw [hA1] at h4 s1
      clear hA0 hA1 hA l0 l1 w0 w1
      go_enter Tryd.func3, Tryd.ntmps3
      go_wp2_with fail
      refine (hkn w hK hT).mono ?_
      rintro e w1 ⟨rfl, p1⟩
      have q1 := p1
      clear p1
      go_wp2_with fail
      refine (h1 w1 (fun k hk => Nat.lt_of_lt_of_le (hK k hk) q1.size) (hT.kept q1 k0 k1)).mono ?_
      rintro e w2 ⟨rfl, p2⟩
      have q2 := q1.trans p2
      clear p2 q1
      go_wp2_with fail
      refine (h3 w2 (fun k hk => Nat.lt_of_lt_of_le (hK k hk) q2.size) (hT.kept q2 k0 k1)).mono ?_
      rintro e w3 ⟨rfl, p3⟩
      have q3 := q2.trans p3
      clear p3 q2
      go_wp2_with fail
      refine (h4 w3 (fun k hk => Nat.lt_of_lt_of_le (hK k hk) q3.size) (hT.kept q3 k0 k1)).mono ?_
      rintro e w4 ⟨rfl, p4⟩
      have q4 := q3.trans p4
      clear p4 q3
      go_wp2
      go_ret
      exact ⟨rfl, hfin _ q4⟩
    · have e1 : decide ((a1.size : Int) > 500) = true := by simp; omega
      go_enter Tryd.func3, Tryd.ntmps3
      go_wp2_with fail
      refine (hkn w hK hT).mono ?_
      rintro e w1 ⟨rfl, p1⟩
      have q1 := p1
      clear p1
      go_wp2
      go_ret
      exact ⟨rfl, hfin _ q1⟩
  · have e0 : decide ((a0.size : Int) > 500) = true := by simp; omega
    go_enter Tryd.func3, Tryd.ntmps3
    go_wp2_with fail
    refine (hkn w hK hT).mono ?_
    rintro e w1 ⟨rfl, p1⟩
    have q1 := p1
    clear p1
    go_wp2
    go_ret
    exact ⟨rfl, hfin _ q1⟩

set_option maxRecDepth 100000 in
theorem lifted (os : Os) (started : os.Started) (H : Type) (enc : TypeId × Value → H) :
    ReturnsInHanded {} Tryd.checked os 3 .any (fun w args => (Rows.charrefPartsSpec.pre enc Tryd.prog Tryd.f3 [] false w args ∧ laidMetH Tryd.prog laidL w) ∧ sizedMet enc Tryd.prog Tryd.f3 (OpenSpec.ofChange Rows.charrefPartsSpec) false w args)
      (Rows.charrefPartsSpec.post enc Tryd.prog Tryd.f3 false true false false) := by
  refine returnsInHanded_of_change_and (C := Tryd.checked) (X := fun w _ => laidMetH Tryd.prog laidL w) (fun _ _ _ hh h => h.of_heap hh) own started (by kernel_rfl) Tryd.func3
    (ChangeSpec.witness_shaped (enc := enc) (C := Tryd.checked) (os := os) (X := fun w _ => laidMetH Tryd.prog laidL w) false (World.doorLaid Tryd.prog 41 os) #[.string ByteArray.empty, .string ByteArray.empty] 8 rfl (World.shaped_of_RefB (by kernel_rfl) (by kernel_rfl)) (by kernel_rfl) (by kernel_rfl) (by kernel_rfl) (door_met os _)) ?_
  intro W base args ds gs before hval0 hW _ _ hL _
  have hval : ∀ (j : Nat) t v, Tryd.f3.params[j]? = some t → args[j]? = some v → Value.okWide Tryd.prog W .any base t v := hval0
  have hW' := hW
  obtain ⟨p, q, hA0, hV, rfl, hfz, hnd⟩ := hW
  have hA : DataW.TrodAll enc Tryd.prog W 0 (fun _ => true) true Tryd.f3.params.toList args.toList ds p := hA0
  rw [Tryd.params3] at hA hval
  obtain ⟨v0, vs0, d0, ds0, p0, q0, hargs, rfl, rfl, h0, r0⟩ := trodAll_cons hA
  obtain ⟨v1, vs1, d1, ds1, p1, q1, rfl, rfl, rfl, h1, r1⟩ := trodAll_cons r0
  obtain ⟨rfl, rfl, rfl⟩ := trodAll_nil r1
  obtain rfl : args = #[v0, v1] := by cases args; simp_all
  obtain ⟨rfl, rfl⟩ := trodVars_none hV
  obtain ⟨a0, rfl, rfl, rfl, w0⟩ := open_string Tryd.underlying9 (hval 0 9 v0 rfl rfl) h0
  obtain ⟨a1, rfl, rfl, rfl, w1⟩ := open_string Tryd.underlying9 (hval 1 9 v1 rfl rfl) h1
  clear hA0 hval0
  obtain ⟨hT, h2⟩ := of_laid hL
  refine (walk a0 a1 w0 w1 W hT h2).mono fun e W' ⟨he, bel⟩ => ?_
  subst he
  exact ⟨_, rfl, _, _, _, [], _, [], hW', trodAll_mk1 (shut_bool Tryd.underlying4 _), (trodAll_cons_mk (shut_string Tryd.underlying9 w0) (trodAll_cons_mk (shut_string Tryd.underlying9 w1) trodAll_mk0)), rfl, bel.frame _, fun h => by cases h⟩

theorem over : Rows.charrefPartsRow.holds Tryd.pinned (OpenSpec.ofChange Rows.charrefPartsSpec) :=
  OpenClaim.holds_of_wide 3 Tryd.f3 rfl rfl rfl rfl rfl rfl rfl ⟨rfl, rfl, rfl, rfl, rfl⟩ rfl rfl rfl rfl rfl (by kernel_rfl) Tryd.func3 (by kernel_rfl)
    (of_decide_eq_true (by kernel_rfl)) (by unfold Func.isWrapper; first | (rw [if_pos (by decide +kernel)]; kernel_rfl) | (rw [if_neg (by decide +kernel)]; exact ⟨rfl, rfl⟩))
    (fun os started H enc _ => lifted os started H enc)

theorem proved : Rows.CharrefPartsSaid :=
  over
#print axioms proved
end Go.Proofs.YtndlififfofcmaaDoor.charrefParts

namespace Go.Proofs.YtndlififfofcmaaDoor
open Go
theorem charrefParts_holds : Rows.CharrefPartsCardSaid :=
  Claim7.holds_tied_plain_at .later [] [.data, .data] true (true, "8f3625062479491c6e2980523c4b9d8a17347264d19ae713b62dbfba23b51b78") false
    charrefParts.proved (fun _ h => by cases h) (by kernel_rfl) (fun _ h => by cases h) charrefParts_row_tie rfl ⟨rfl, rfl⟩ (by kernel_rfl) rfl
    (fun f fn hf hfn => by
      obtain rfl : f = 3 := Option.some.inj ((show Tryd.prog.funcNamed Rows.charrefPartsRow.func = some 3 by kernel_rfl).symm.trans hf) |>.symm
      obtain rfl : fn = Tryd.f3 := (Option.some.inj (Tryd.func3.symm.trans hfn)).symm
      exact ⟨by kernel_rfl, fun j t ht => by
        rw [Tryd.params3] at ht
        have hm : t ∈ [9, 9] := by simpa using Array.mem_of_getElem? ht
        have hall : ([9, 9].all fun u => !Tryd.prog.wantsStandIn u) = true := by kernel_rfl
        exact (show Tryd.prog.wantsStandIn t = false by simpa using List.all_eq_true.1 hall t hm)⟩)
    (by kernel_rfl)
#print axioms charrefParts_holds
end Go.Proofs.YtndlififfofcmaaDoor
