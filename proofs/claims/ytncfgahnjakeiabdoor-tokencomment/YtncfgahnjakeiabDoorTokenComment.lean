/-
  For every two texts the Go function portierelaw06.TokenComment returns true, and its arguments read afterwards as before; the two tables of the program are tied to its text.
-/
import Derived.Test.YtncfgahnjakeiabDoorRows
import Derived.Test.YtncfgahnjakeiabDoorLaid
import Derived.Test.YtncfgahnjakeiabDoorCmt
import Derived.Test.YtncfgahnjakeiabDoorCards
import Derived.Test.YtncfgahnjakeiabDoorTie
import Derived.SevenTiedAt
import Derived.WalkKit
import Derived.ProofKit
import Derived.OpenShut
import Derived.ShutString
namespace Go.Proofs.YtncfgahnjakeiabDoor.tokenComment
open Go.ChangeShapes Go.WideShapes Go.ChangeAt Go.RowKit
open Go.ChangeMaps (open_string shut_string)
set_option linter.unusedVariables false

set_option maxRecDepth 20000 in
set_option maxHeartbeats 4000000 in
theorem walk (a0 : ByteArray) (a1 : ByteArray) (w0 : a0.size ≤ maxLen) (w1 : a1.size ≤ maxLen) (w : World) (hT : Tab w) (h2 : 1 < w.heap.size) :
    Calls Tryd.prog 5 #[.string a0, .string a1] w fun e w' => e = .returned (.bool true) ∧ Below w.heap.size w w' := by
  obtain ⟨K, hKe⟩ : ∃ K : Nat → Prop, (fun k => k < w.heap.size) = K := ⟨_, rfl⟩
  have hK : ∀ k, K k → k < w.heap.size := by
    rw [← hKe]
    exact fun k h => h
  have hfin : ∀ X, Kept K w X → Below w.heap.size w X := by
    rw [← hKe]
    exact fun _ h => h.below
  have k0 : K 0 := by
    rw [← hKe]
    show 0 < w.heap.size
    omega
  have k1 : K 1 := by
    rw [← hKe]
    exact h2
  clear hKe
  have hkn := fun X hX hXT => known_any K X hX hXT k0 k1
  have hl0 : a0.data.toList.length = a0.size := rfl
  have hl1 : a1.data.toList.length = a1.size := rfl
  by_cases hz : a0.size ≤ 1500
  · have e0 : decide ((a0.size : Int) > 1500) = false := decide_eq_false (by omega)
    by_cases hz1 : a1.size ≤ 200
    · have e1 : decide ((a1.size : Int) > 200) = false := decide_eq_false (by omega)
      have HT0 : Hid (cmL (a0.data.toList.take a0.size) = cmL a0.data.toList) := by show cmL _ = _; rw [← hl0, List.take_length]
      have htl : (cmL a0.data.toList).length ≤ 1500 := Nat.le_trans (List.length_filter_le _ _) (by omega)
      clear w0 w1
      go_enter Tryd.func5, Tryd.ntmps5
      go_wp2_with fail
      refine (hkn w hK hT).mono ?_
      rintro e w1 ⟨rfl, p1⟩
      have hT1 := hT.kept p1 k0 k1
      have hK1 : ∀ k, K k → k < w1.heap.size := fun k hk => Nat.lt_of_lt_of_le (hK k hk) p1.size
      clear hkn
      go_wp2_with fail
      go_loopg [5, 6] a0.size (fun gm tv iv wr => ∃ k : Nat, gm = a0.size - k ∧ k ≤ a0.size ∧ iv = .int .i64 k ∧ tv = sv (cmL (a0.data.toList.take k)) ∧ wr = w1)
      case atStart => exact ⟨0, rfl, Nat.zero_le _, rfl, rfl, rfl⟩
      case round =>
        obtain ⟨k, hgk, hk, rfl, rfl, rfl⟩ := hrel
        have hnl : (cmL (a0.data.toList.take k)).length ≤ k := Nat.le_trans (List.length_filter_le _ _) (by rw [List.length_take]; omega)
        by_cases hlt : k < a0.size
        · have hone := ext_one hlt
          have hsn := cm_snoc hlt
          obtain ⟨c, ec⟩ : ∃ c, a0[k] = c := ⟨_, rfl⟩
          rw [ec] at hone hsn
          have HC : Hid (cmB c = (decide (c ≠ 45) && (decide (c ≠ 62) && decide (c ≠ 0)))) := rfl
          have hes : (a0.extract k (k + 1)).size = 1 := congrArg List.length hone
          by_cases c1 : c = 45
          · have t1 : ((c.toNat : Int) != 45) = false := by rw [c1]; rfl
            have HS : Hid (cmL (a0.data.toList.take (k + 1)) = cmL (a0.data.toList.take k)) := by show cmL _ = _; rw [hsn, if_neg (by rw [c1]; decide)]
            clear hsn hone HC HT0
            go_wp2
            go_roundg (a0.size - (k + 1))
            case rel => exact ⟨k + 1, rfl, by omega, by go_num, by rw [HS.out], rfl⟩
            case measure => omega
          · have t1 : ((c.toNat : Int) != 45) = true := by
              simp
              intro e
              exact c1 (UInt8.toNat_inj.1 (by show c.toNat = 45; omega))
            by_cases c2 : c = 62
            · have t2 : ((c.toNat : Int) != 62) = false := by rw [c2]; rfl
              have HS : Hid (cmL (a0.data.toList.take (k + 1)) = cmL (a0.data.toList.take k)) := by show cmL _ = _; rw [hsn, if_neg (by rw [c2]; decide)]
              clear hsn hone HC HT0
              go_wp2
              go_roundg (a0.size - (k + 1))
              case rel => exact ⟨k + 1, rfl, by omega, by go_num, by rw [HS.out], rfl⟩
              case measure => omega
            · have t2 : ((c.toNat : Int) != 62) = true := by
                simp
                intro e
                exact c2 (UInt8.toNat_inj.1 (by show c.toNat = 62; omega))
              by_cases c3 : c = 0
              · have t3 : ((c.toNat : Int) != 0) = false := by rw [c3]; rfl
                have HS : Hid (cmL (a0.data.toList.take (k + 1)) = cmL (a0.data.toList.take k)) := by show cmL _ = _; rw [hsn, if_neg (by rw [c3]; decide)]
                clear hsn hone HC HT0
                go_wp2
                go_roundg (a0.size - (k + 1))
                case rel => exact ⟨k + 1, rfl, by omega, by go_num, by rw [HS.out], rfl⟩
                case measure => omega
              · have t3 : ((c.toNat : Int) != 0) = true := by
                  simp
                  intro e
                  exact c3 (UInt8.toNat_inj.1 (by show c.toNat = 0; omega))
                have HS : (⟨(cmL (a0.data.toList.take k)).toArray⟩ : ByteArray) ++ a0.extract k (k + 1) = ⟨(cmL (a0.data.toList.take (k + 1))).toArray⟩ := by
                  rw [mk_app, hone, hsn, if_pos (by rw [HC.out]; simp [c1, c2, c3])]
                clear hsn hone HC HT0 c1 c2 c3
                go_wp2
                go_roundg (a0.size - (k + 1))
                case rel => exact ⟨k + 1, rfl, by omega, by go_num, rfl, rfl⟩
                case measure => omega
        · have hkk : k = a0.size := by omega
          subst hkk
          rw [HT0.out]
          have hmem := @cm_mem a0.data.toList
          obtain ⟨tl, etl⟩ : ∃ tl, cmL a0.data.toList = tl := ⟨_, rfl⟩
          rw [etl] at htl hmem ⊢
          have r1 := fun X => rclean_any a1 (by omega) X
          have hmm := @cleanL_mem a1.data.toList
          have hml := cleanL_length a1.data.toList
          have hnil := @cleanL_nil a1.data.toList
          have hni : a1.data.toList = [] → cleanL a1.data.toList = [] := fun e => by rw [e]; rfl
          obtain ⟨ml, eml⟩ : ∃ ml, cleanL a1.data.toList = ml := ⟨_, rfl⟩
          rw [eml] at hmm hml hnil hni
          simp only [eml] at r1
          have r2 : ∀ X, Calls Tryd.prog 10 #[sv ml] X fun e w' => e = .returned (sv (esc false ml)) ∧ w' = X := fun X => rtext_any ⟨ml.toArray⟩ X (by rw [sv_size]; omega)
          have hel := esc_short false ml
          obtain ⟨pp, q1, q2⟩ := tok_cmt tl ml hmem hmm
          have r3 := tokens_of q1 q2 (by simp only [List.length_cons, List.length_append]; omega) K wr hK1 hT1 k0 k1
          have x1 : (⟨#[60, 33, 45, 45]⟩ : ByteArray) ++ ⟨tl.toArray⟩ = ⟨(60 :: 33 :: 45 :: 45 :: tl).toArray⟩ := mk_app2 _ _
          have x2 : (⟨(60 :: 33 :: 45 :: 45 :: tl).toArray⟩ : ByteArray) ++ ⟨#[45, 45, 62]⟩ = ⟨(60 :: 33 :: 45 :: 45 :: (tl ++ [45, 45, 62])).toArray⟩ := mk_app2 _ _
          have x3 : (⟨(60 :: 33 :: 45 :: 45 :: (tl ++ [45, 45, 62])).toArray⟩ : ByteArray) ++ ⟨(esc false ml).toArray⟩ = ⟨(60 :: 33 :: 45 :: 45 :: (tl ++ 45 :: 45 :: 62 :: esc false ml)).toArray⟩ := by
            rw [mk_app2]
            congr 2
            simp
          have hml2 : ml.length ≤ 600 := by omega
          have hel2 : (esc false ml).length ≤ 3600 := by omega
          have hib : ∀ X, Calls Tryd.prog 11 #[.string a1] X fun e w' => e = .returned (sv ml) ∧ ∃ m, w' = X.drewN m := fun X => (r1 X).mono fun _ _ ⟨h1, h2⟩ => ⟨h1, 0, h2⟩
          obtain ⟨E, eE⟩ : ∃ E, esc false ml = E := ⟨_, rfl⟩
          rw [eE] at r3 x3 hel2
          simp only [eE] at r2
          clear HT0 etl hmem hmm eml q1 q2 hel hgk hk hlt hnl eE
          by_cases hm0 : ml = []
          · have ha1 : (a1.toList == []) = true := by rw [ByteArray.toList_eq, hnil hm0]; rfl
            have ha2 : (a1.toList != []) = false := by rw [bne, ha1]; rfl
            rw [if_pos hm0] at r3
            subst hm0
            go_wp2_with fail
            refine (r1 _).mono ?_
            rintro e w2 ⟨rfl, rfl⟩
            go_wp2_with fail
            refine (r2 _).mono ?_
            rintro e w3 ⟨rfl, rfl⟩
            go_wp2_with fail
            refine r3.mono ?_
            rintro e w4 ⟨ta, tc, fa, fc, rfl, ht, _, k4⟩
            obtain ⟨g, aa, ac, rfl, _, _, c0, c1, c2, c3, c4, c5⟩ := ht 0 (by simp)
            simp only [List.getElem_cons_zero, Nat.zero_mul, Nat.zero_add, List.length_nil] at c0 c1 c2 c3 c4 c5
            clear ht r1 r2 r3
            go_wp2_with fail
            go_quiet (fail)
            go_wp2
            go_ret
            exact ⟨rfl, hfin _ ((p1.trans k4).drewN _)⟩
          · have ha1 : (a1.toList == []) = false := by
              rw [ByteArray.toList_eq]
              cases hh : a1.data.toList with
              | nil => exact absurd (hni hh) hm0
              | cons => rfl
            have ha2 : (a1.toList != []) = true := by rw [bne, ha1]; rfl
            rw [if_neg hm0] at r3
            clear hm0
            go_wp2_with fail
            refine (r1 _).mono ?_
            rintro e w2 ⟨rfl, rfl⟩
            go_wp2_with fail
            refine (r2 _).mono ?_
            rintro e w3 ⟨rfl, rfl⟩
            go_wp2_with fail
            refine r3.mono ?_
            rintro e w4 ⟨ta, tc, fa, fc, rfl, ht, _, k4⟩
            obtain ⟨g, aa, ac, rfl, _, _, c0, c1, c2, c3, c4, c5⟩ := ht 0 (by simp)
            obtain ⟨g', aa', ac', eg, _, _, _, _, _, _, d4, _⟩ := ht 1 (by simp)
            injection eg with eg
            injection eg with eg
            subst eg
            simp only [List.getElem_cons_zero, List.getElem_cons_succ, Nat.zero_mul, Nat.zero_add, Nat.one_mul, Nat.reduceAdd, List.length_nil] at c0 c1 c2 c3 c4 c5 d4
            clear ht r1 r2 r3
            go_wp2_with fail
            go_quiet ((go_at_call 11; exact Calls.quiet_of (hib _)))
            go_wp2
            go_ret
            exact ⟨rfl, hfin _ ((p1.trans k4).drewN _)⟩
    · have e1 : decide ((a1.size : Int) > 200) = true := decide_eq_true (by omega)
      go_enter Tryd.func5, Tryd.ntmps5
      go_wp2_with fail
      refine (hkn w hK hT).mono ?_
      rintro e w1 ⟨rfl, p1⟩
      have q1 := p1
      clear p1
      go_wp2
      go_ret
      exact ⟨rfl, hfin _ q1⟩
  · have e0 : decide ((a0.size : Int) > 1500) = true := decide_eq_true (by omega)
    go_enter Tryd.func5, Tryd.ntmps5
    go_wp2_with fail
    refine (hkn w hK hT).mono ?_
    rintro e w1 ⟨rfl, p1⟩
    have q1 := p1
    clear p1
    go_wp2
    go_ret
    exact ⟨rfl, hfin _ q1⟩

set_option maxRecDepth 100000 in
theorem lifted (os : Os) (started : os.Started) (H : Type) (enc : TypeId × Value → H) :
    ReturnsInHanded {} Tryd.checked os 5 .any (fun w args => (Rows.tokenCommentSpec.pre enc Tryd.prog Tryd.f5 [] false w args ∧ laidMetH Tryd.prog laidL w) ∧ sizedMet enc Tryd.prog Tryd.f5 (OpenSpec.ofChange Rows.tokenCommentSpec) false w args)
      (Rows.tokenCommentSpec.post enc Tryd.prog Tryd.f5 false true false false) := by
  refine returnsInHanded_of_change_and (C := Tryd.checked) (X := fun w _ => laidMetH Tryd.prog laidL w) (fun _ _ _ hh h => h.of_heap hh) own started (by kernel_rfl) Tryd.func5
    (ChangeSpec.witness_shaped (enc := enc) (C := Tryd.checked) (os := os) (X := fun w _ => laidMetH Tryd.prog laidL w) false (World.doorLaid Tryd.prog 41 os) #[.string ByteArray.empty, .string ByteArray.empty] 8 rfl (World.shaped_of_RefB (by kernel_rfl) (by kernel_rfl)) (by kernel_rfl) (by kernel_rfl) (by kernel_rfl) (door_met os _)) ?_
  intro W base args ds gs before hval0 hW _ _ hL _
  have hval : ∀ (j : Nat) t v, Tryd.f5.params[j]? = some t → args[j]? = some v → Value.okWide Tryd.prog W .any base t v := hval0
  have hW' := hW
  obtain ⟨p, q, hA0, hV, rfl, hfz, hnd⟩ := hW
  have hA : DataW.TrodAll enc Tryd.prog W 0 (fun _ => true) true Tryd.f5.params.toList args.toList ds p := hA0
  rw [Tryd.params5] at hA hval
  obtain ⟨v0, vs0, d0, ds0, p0, q0, hargs, rfl, rfl, h0, r0⟩ := trodAll_cons hA
  obtain ⟨v1, vs1, d1, ds1, p1, q1, rfl, rfl, rfl, h1, r1⟩ := trodAll_cons r0
  obtain ⟨rfl, rfl, rfl⟩ := trodAll_nil r1
  obtain rfl : args = #[v0, v1] := by cases args; simp_all
  obtain ⟨rfl, rfl⟩ := trodVars_none hV
  obtain ⟨a0, rfl, rfl, rfl, w0⟩ := open_string Tryd.underlying9 (hval 0 9 v0 rfl rfl) h0
  obtain ⟨a1, rfl, rfl, rfl, w1⟩ := open_string Tryd.underlying9 (hval 1 9 v1 rfl rfl) h1
  clear hA0 hval0
  obtain ⟨hT, h2⟩ := of_laid hL
  refine (walk a0 a1 w0 w1 W hT h2).mono fun e W' ⟨he, bel⟩ => ?_
  subst he
  exact ⟨_, rfl, _, _, _, [], _, [], hW', trodAll_mk1 (shut_bool Tryd.underlying4 _), (trodAll_cons_mk (shut_string Tryd.underlying9 w0) (trodAll_cons_mk (shut_string Tryd.underlying9 w1) trodAll_mk0)), rfl, bel.frame _, fun h => by cases h⟩

theorem over : Rows.tokenCommentRow.holds Tryd.pinned (OpenSpec.ofChange Rows.tokenCommentSpec) :=
  OpenClaim.holds_of_wide 5 Tryd.f5 rfl rfl rfl rfl rfl rfl rfl ⟨rfl, rfl, rfl, rfl, rfl⟩ rfl rfl rfl rfl rfl (by kernel_rfl) Tryd.func5 (by kernel_rfl)
    (of_decide_eq_true (by kernel_rfl)) (by unfold Func.isWrapper; first | (rw [if_pos (by decide +kernel)]; kernel_rfl) | (rw [if_neg (by decide +kernel)]; exact ⟨rfl, rfl⟩))
    (fun os started H enc _ => lifted os started H enc)

theorem proved : Rows.TokenCommentSaid :=
  over
#print axioms proved
end Go.Proofs.YtncfgahnjakeiabDoor.tokenComment

namespace Go.Proofs.YtncfgahnjakeiabDoor
open Go
theorem tokenComment_holds : Rows.TokenCommentCardSaid :=
  Claim7.holds_tied_plain_at .later [] [.data, .data] true (true, "9e3a1078f65f500ba5f6ac718d6380108282357cfe7ca44dd65ae951406170ae") false
    tokenComment.proved (fun _ h => by cases h) (by kernel_rfl) (fun _ h => by cases h) tokenComment_row_tie rfl ⟨rfl, rfl⟩ (by kernel_rfl) rfl
    (fun f fn hf hfn => by
      obtain rfl : f = 5 := Option.some.inj ((show Tryd.prog.funcNamed Rows.tokenCommentRow.func = some 5 by kernel_rfl).symm.trans hf) |>.symm
      obtain rfl : fn = Tryd.f5 := (Option.some.inj (Tryd.func5.symm.trans hfn)).symm
      exact ⟨by kernel_rfl, fun j t ht => by
        rw [Tryd.params5] at ht
        have hm : t ∈ [9, 9] := by simpa using Array.mem_of_getElem? ht
        have hall : ([9, 9].all fun u => !Tryd.prog.wantsStandIn u) = true := by kernel_rfl
        exact (show Tryd.prog.wantsStandIn t = false by simpa using List.all_eq_true.1 hall t hm)⟩)
    (by kernel_rfl)
#print axioms tokenComment_holds
end Go.Proofs.YtncfgahnjakeiabDoor
