/-
  For every text, every place and either kind of place the Go function portierelaw04.CharrefNone returns true, and its arguments read afterwards as before; the two tables of the program are tied to its text.
-/
import Derived.Test.YtndlififfofcmaaDoorRows
import Derived.Test.YtndlififfofcmaaDoorLaid
import Derived.Test.YtndlififfofcmaaDoorKnown
import Derived.Test.YtndlififfofcmaaDoorStill
import Derived.Test.YtndlififfofcmaaDoorCards
import Derived.Test.YtndlififfofcmaaDoorTie
import Derived.SevenTiedAt
import Derived.WalkKit
import Derived.ProofKit
import Derived.OpenShut
import Derived.ShutString
namespace Go.Proofs.YtndlififfofcmaaDoor.charrefNone
open Go.ChangeShapes Go.WideShapes Go.ChangeAt Go.RowKit
open Go.ChangeMaps (open_string shut_string)
set_option linter.unusedVariables false

set_option maxRecDepth 20000 in
set_option maxHeartbeats 4000000 in
theorem walk (a0 : ByteArray) (a1 : Int) (a2 : Bool) (w0 : a0.size ≤ maxLen) (w1 : (Lit.int .i64 a1).wf = true) (w : World) (hT : Tab w) (h2 : 1 < w.heap.size) :
    Calls Tryd.prog 8 #[.string a0, .int .i64 a1, .bool a2] w fun e w' => e = .returned (.bool true) ∧ Below w.heap.size w w' := by
  obtain ⟨K, hKe⟩ : ∃ K : Nat → Prop, (fun k => k < w.heap.size) = K := ⟨_, rfl⟩
  have hK : ∀ k, K k → k < w.heap.size := by
    rw [← hKe]
    exact fun k h => h
  have hfin : ∀ X, Kept K w X → Below w.heap.size w X := by
    rw [← hKe]
    exact fun _ h => h.below
  have k0 : K 0 := by
    rw [← hKe]
    show 0 < w.heap.size
    omega
  have k1 : K 1 := by
    rw [← hKe]
    exact h2
  clear hKe
  have hkn := fun X hX hXT => known_any K X hX hXT k0 k1
  by_cases hz : a0.size ≤ 1000
  · have e0 : decide ((a0.size : Int) > 1000) = false := by simp; omega
    have hl0 : a0.data.toList.length = a0.size := rfl
    clear w0
    go_enter Tryd.func8, Tryd.ntmps8
    go_wp2_with fail
    refine (hkn w hK hT).mono ?_
    rintro e w1 ⟨rfl, p1⟩
    have q1 := p1
    clear p1
    go_wp2_with fail
    go_loopg [7, 8] a0.size (fun g t i wr => ∃ k : Nat, g = a0.size - k ∧ k ≤ a0.size ∧ i = .int .i64 k ∧ t = .string (noB (a0.data.toList.take k)) ∧ wr = w1)
    case atStart => exact ⟨0, rfl, Nat.zero_le _, rfl, rfl, rfl⟩
    case round =>
      obtain ⟨k, hgk, hk, rfl, rfl, rfl⟩ := hrel
      have hsz := noB_size (a0.data.toList.take k)
      rw [List.length_take] at hsz
      by_cases hlt : k < a0.size
      · have HS1 : Hid (a0[k] = 38 → noB (a0.data.toList.take (k + 1)) = noB (a0.data.toList.take k)) := fun h => noB_skip hlt h
        have HS2 : Hid (¬ a0[k] = 38 → noB (a0.data.toList.take (k + 1)) = noB (a0.data.toList.take k) ++ a0.extract k (k + 1)) := fun h => noB_keep hlt h
        have hone : (a0.extract k (k + 1)).size = 1 := by
          have := extract_list a0 k (k + 1)
          have h2 := congrArg List.length this
          rw [List.length_drop, List.length_take] at h2
          have h3 : (a0.extract k (k + 1)).data.toList.length = (a0.extract k (k + 1)).size := rfl
          omega
        obtain ⟨t, ht⟩ : ∃ t, noB (a0.data.toList.take k) = t := ⟨_, rfl⟩
        rw [ht] at HS1 HS2 hsz ⊢
        clear ht
        by_cases h38 : a0[k] = 38
        · have e1 : ((a0[k].toNat : Int) == 38) = true := by rw [h38]; rfl
          have e1' : ((a0[k].toNat : Int) != 38) = false := by rw [h38]; rfl
          have HS := HS1.out h38
          have HS3 : Hid (noB (a0.data.toList.take (k + 1)) = t) := HS
          clear HS1 HS2 HS h38
          go_wp2
          go_roundg (a0.size - (k + 1))
          case rel => exact ⟨k + 1, rfl, by omega, by go_num, by rw [HS3.out], rfl⟩
          case measure => omega
        · have e1 : ((a0[k].toNat : Int) == 38) = false := by
            simp
            intro h
            exact h38 (UInt8.toNat_inj.1 (by show a0[k].toNat = 38; omega))
          have e1' : ((a0[k].toNat : Int) != 38) = true := by
            simp only [bne, e1]
            rfl
          have HS := HS2.out h38
          have HS3 : Hid (noB (a0.data.toList.take (k + 1)) = t ++ a0.extract k (k + 1)) := HS
          clear HS1 HS2 HS h38
          go_wp2
          go_roundg (a0.size - (k + 1))
          case rel => exact ⟨k + 1, rfl, by omega, by go_num, by rw [HS3.out], rfl⟩
          case measure => omega
      · have hke : a0.data.toList.take k = a0.data.toList := List.take_of_length_le (by omega)
        rw [hke] at hsz ⊢
        have hno := noB_no a0.data.toList
        have hz2 : (noB a0.data.toList).size ≤ 1000 := by omega
        have h1 := fun X hX hXT => take_any (noB a0.data.toList) a1 a2 K X hX (by omega) hXT
        rw [takeS_none hno] at h1
        have h3 := fun i (hi : (a0.size : Int) ≤ i) X hX hXT => take_beyond a0 i a2 K X hX (by omega) hXT hi
        have h4 := fun X hX hXT => take_any (⟨#[38, 32]⟩ ++ noB a0.data.toList) 0 a2 K X hX (by rw [ByteArray.size_append]; show 2 + _ < _; omega) hXT
        have t4 : takeS (⟨#[38, 32]⟩ ++ noB a0.data.toList) 0 a2 = none0 := by
          have hs : (⟨#[38, 32]⟩ ++ noB a0.data.toList : ByteArray).data.toList = 38 :: 32 :: (noB a0.data.toList).data.toList := by
            simp [ByteArray.data_append]
          rw [takeS_zero (by rw [hs]; simp), hs, take_blank]
        rw [t4] at h4
        have h5 := fun X hX hXT => all_any (noB a0.data.toList) a2 K X hX (by omega) hXT k0 k1
        rw [all_none a2 _ hno] at h5
        obtain ⟨t, ht⟩ : ∃ t, noB a0.data.toList = t := ⟨_, rfl⟩
        rw [ht] at h1 h4 h5 hz2 ⊢
        have ht5 : (⟨t.data.toList.toArray⟩ : ByteArray) = t := by
          apply ByteArray.ext
          simp
        rw [ht5] at h5
        clear ht ht5 hno t4 hsz hke
        unfold none0 at h1 h3 h4
        by_cases hpos : 0 ≤ a1
        · obtain ⟨p, rfl⟩ : ∃ p : Nat, a1 = (p : Int) := ⟨a1.toNat, by omega⟩
          have hmx : max (p : Int) 0 = (p : Int) := by omega
          go_wp2_with fail
          refine (h1 _ (fun k hk => Nat.lt_of_lt_of_le (hK k hk) q1.size) (hT.kept q1 k0 k1)).mono ?_
          rintro e w2 ⟨rfl, p2⟩
          have q2 := q1.trans p2
          clear p2 q1
          go_wp2_with fail
          refine (h3 _ (by omega) _ (fun k hk => Nat.lt_of_lt_of_le (hK k hk) q2.size) (hT.kept q2 k0 k1)).mono ?_
          rintro e w3 ⟨rfl, p3⟩
          have q3 := q2.trans p3
          clear p3 q2
          go_wp2_with fail
          refine (h4 _ (fun k hk => Nat.lt_of_lt_of_le (hK k hk) q3.size) (hT.kept q3 k0 k1)).mono ?_
          rintro e w4 ⟨rfl, p4⟩
          have q4 := q3.trans p4
          clear p4 q3
          go_wp2_with fail
          refine (h5 _ (fun k hk => Nat.lt_of_lt_of_le (hK k hk) q4.size) (hT.kept q4 k0 k1)).mono ?_
          rintro e w5 ⟨rfl, p5⟩
          have q5 := q4.trans p5
          clear p5 q4
          go_wp2
          go_ret
          exact ⟨rfl, hfin _ q5⟩
        · have hneg : a1 < 0 := by omega
          have hmx : max a1 0 = 0 := by omega
          go_wp2_with fail
          refine (h1 _ (fun k hk => Nat.lt_of_lt_of_le (hK k hk) q1.size) (hT.kept q1 k0 k1)).mono ?_
          rintro e w2 ⟨rfl, p2⟩
          have q2 := q1.trans p2
          clear p2 q1
          go_wp2_with fail
          refine (h3 _ (by omega) _ (fun k hk => Nat.lt_of_lt_of_le (hK k hk) q2.size) (hT.kept q2 k0 k1)).mono ?_
          rintro e w3 ⟨rfl, p3⟩
          have q3 := q2.trans p3
          clear p3 q2
          go_wp2_with fail
          refine (h4 _ (fun k hk => Nat.lt_of_lt_of_le (hK k hk) q3.size) (hT.kept q3 k0 k1)).mono ?_
          rintro e w4 ⟨rfl, p4⟩
          have q4 := q3.trans p4
          clear p4 q3
          go_wp2_with fail
          refine (h5 _ (fun k hk => Nat.lt_of_lt_of_le (hK k hk) q4.size) (hT.kept q4 k0 k1)).mono ?_
          rintro e w5 ⟨rfl, p5⟩
          have q5 := q4.trans p5
          clear p5 q4
          go_wp2
          go_ret
          exact ⟨rfl, hfin _ q5⟩
  · have e0 : decide ((a0.size : Int) > 1000) = true := by simp; omega
    go_enter Tryd.func8, Tryd.ntmps8
    go_wp2_with fail
    refine (hkn w hK hT).mono ?_
    rintro e w1 ⟨rfl, p1⟩
    have q1 := p1
    clear p1
    go_wp2
    go_ret
    exact ⟨rfl, hfin _ q1⟩

set_option maxRecDepth 100000 in
theorem lifted (os : Os) (started : os.Started) (H : Type) (enc : TypeId × Value → H) :
    ReturnsInHanded {} Tryd.checked os 8 .any (fun w args => (Rows.charrefNoneSpec.pre enc Tryd.prog Tryd.f8 [] false w args ∧ laidMetH Tryd.prog laidL w) ∧ sizedMet enc Tryd.prog Tryd.f8 (OpenSpec.ofChange Rows.charrefNoneSpec) false w args)
      (Rows.charrefNoneSpec.post enc Tryd.prog Tryd.f8 false true false false) := by
  refine returnsInHanded_of_change_and (C := Tryd.checked) (X := fun w _ => laidMetH Tryd.prog laidL w) (fun _ _ _ hh h => h.of_heap hh) own started (by kernel_rfl) Tryd.func8
    (ChangeSpec.witness_shaped (enc := enc) (C := Tryd.checked) (os := os) (X := fun w _ => laidMetH Tryd.prog laidL w) false (World.doorLaid Tryd.prog 41 os) #[.string ByteArray.empty, .int .i64 0, .bool false] 8 rfl (World.shaped_of_RefB (by kernel_rfl) (by kernel_rfl)) (by kernel_rfl) (by kernel_rfl) (by kernel_rfl) (door_met os _)) ?_
  intro W base args ds gs before hval0 hW _ _ hL _
  have hval : ∀ (j : Nat) t v, Tryd.f8.params[j]? = some t → args[j]? = some v → Value.okWide Tryd.prog W .any base t v := hval0
  have hW' := hW
  obtain ⟨p, q, hA0, hV, rfl, hfz, hnd⟩ := hW
  have hA : DataW.TrodAll enc Tryd.prog W 0 (fun _ => true) true Tryd.f8.params.toList args.toList ds p := hA0
  rw [Tryd.params8] at hA hval
  obtain ⟨v0, vs0, d0, ds0, p0, q0, hargs, rfl, rfl, h0, r0⟩ := trodAll_cons hA
  obtain ⟨v1, vs1, d1, ds1, p1, q1, rfl, rfl, rfl, h1, r1⟩ := trodAll_cons r0
  obtain ⟨v2, vs2, d2, ds2, p2, q2, rfl, rfl, rfl, h2, r2⟩ := trodAll_cons r1
  obtain ⟨rfl, rfl, rfl⟩ := trodAll_nil r2
  obtain rfl : args = #[v0, v1, v2] := by cases args; simp_all
  obtain ⟨rfl, rfl⟩ := trodVars_none hV
  obtain ⟨a0, rfl, rfl, rfl, w0⟩ := open_string Tryd.underlying9 (hval 0 9 v0 rfl rfl) h0
  obtain ⟨a1, rfl, rfl, rfl, w1⟩ := open_int Tryd.underlying3 (hval 1 3 v1 rfl rfl) h1
  obtain ⟨a2, rfl, rfl, rfl⟩ := open_bool Tryd.underlying4 (hval 2 4 v2 rfl rfl) h2
  clear hA0 hval0
  obtain ⟨hT, h2⟩ := of_laid hL
  refine (walk a0 a1 a2 w0 w1 W hT h2).mono fun e W' ⟨he, bel⟩ => ?_
  subst he
  exact ⟨_, rfl, _, _, _, [], _, [], hW', trodAll_mk1 (shut_bool Tryd.underlying4 _), (trodAll_cons_mk (shut_string Tryd.underlying9 w0) (trodAll_cons_mk (shut_int Tryd.underlying3 w1) (trodAll_cons_mk (shut_bool Tryd.underlying4 _) trodAll_mk0))), rfl, bel.frame _, fun h => by cases h⟩

theorem over : Rows.charrefNoneRow.holds Tryd.pinned (OpenSpec.ofChange Rows.charrefNoneSpec) :=
  OpenClaim.holds_of_wide 8 Tryd.f8 rfl rfl rfl rfl rfl rfl rfl ⟨rfl, rfl, rfl, rfl, rfl⟩ rfl rfl rfl rfl rfl (by kernel_rfl) Tryd.func8 (by kernel_rfl)
    (of_decide_eq_true (by kernel_rfl)) (by unfold Func.isWrapper; first | (rw [if_pos (by decide +kernel)]; kernel_rfl) | (rw [if_neg (by decide +kernel)]; exact ⟨rfl, rfl⟩))
    (fun os started H enc _ => lifted os started H enc)

theorem proved : Rows.CharrefNoneSaid :=
  over
#print axioms proved
end Go.Proofs.YtndlififfofcmaaDoor.charrefNone

namespace Go.Proofs.YtndlififfofcmaaDoor
open Go
theorem charrefNone_holds : Rows.CharrefNoneCardSaid :=
  Claim7.holds_tied_plain_at .later [] [.data, .data] true (true, "8f3625062479491c6e2980523c4b9d8a17347264d19ae713b62dbfba23b51b78") false
    charrefNone.proved (fun _ h => by cases h) (by kernel_rfl) (fun _ h => by cases h) charrefNone_row_tie rfl ⟨rfl, rfl⟩ (by kernel_rfl) rfl
    (fun f fn hf hfn => by
      obtain rfl : f = 8 := Option.some.inj ((show Tryd.prog.funcNamed Rows.charrefNoneRow.func = some 8 by kernel_rfl).symm.trans hf) |>.symm
      obtain rfl : fn = Tryd.f8 := (Option.some.inj (Tryd.func8.symm.trans hfn)).symm
      exact ⟨by kernel_rfl, fun j t ht => by
        rw [Tryd.params8] at ht
        have hm : t ∈ [9, 3, 4] := by simpa using Array.mem_of_getElem? ht
        have hall : ([9, 3, 4].all fun u => !Tryd.prog.wantsStandIn u) = true := by kernel_rfl
        exact (show Tryd.prog.wantsStandIn t = false by simpa using List.all_eq_true.1 hall t hm)⟩)
    (by kernel_rfl)
#print axioms charrefNone_holds
end Go.Proofs.YtndlififfofcmaaDoor
