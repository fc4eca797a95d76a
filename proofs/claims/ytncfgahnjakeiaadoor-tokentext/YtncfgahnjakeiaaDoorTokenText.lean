/-
  For every text the Go function portierelaw06.TokenText returns true, and its argument reads afterwards as before; the two tables of the program are tied to its text.
-/
import Derived.Test.YtncfgahnjakeiaaDoorRows
import Derived.Test.YtncfgahnjakeiaaDoorLaid
import Derived.Test.YtncfgahnjakeiaaDoorLaws
import Derived.Test.YtncfgahnjakeiaaDoorCards
import Derived.Test.YtncfgahnjakeiaaDoorTie
import Derived.SevenTiedAt
import Derived.WalkKit
import Derived.ProofKit
import Derived.OpenShut
import Derived.ShutString
namespace Go.Proofs.YtncfgahnjakeiaaDoor.tokenText
open Go.ChangeShapes Go.WideShapes Go.ChangeAt Go.RowKit
open Go.ChangeMaps (open_string shut_string)
set_option linter.unusedVariables false

set_option maxRecDepth 20000 in
set_option maxHeartbeats 4000000 in
theorem walk (a0 : ByteArray) (w0 : a0.size ≤ maxLen) (w : World) (hT : Tab w) (h2 : 1 < w.heap.size) :
    Calls Tryd.prog 8 #[.string a0] w fun e w' => e = .returned (.bool true) ∧ Below w.heap.size w w' := by
  obtain ⟨K, hKe⟩ : ∃ K : Nat → Prop, (fun k => k < w.heap.size) = K := ⟨_, rfl⟩
  have hK : ∀ k, K k → k < w.heap.size := by
    rw [← hKe]
    exact fun k h => h
  have hfin : ∀ X, Kept K w X → Below w.heap.size w X := by
    rw [← hKe]
    exact fun _ h => h.below
  have k0 : K 0 := by
    rw [← hKe]
    show 0 < w.heap.size
    omega
  have k1 : K 1 := by
    rw [← hKe]
    exact h2
  clear hKe
  have hkn := fun X hX hXT => known_any K X hX hXT k0 k1
  have hl0 : a0.data.toList.length = a0.size := rfl
  by_cases hz : a0.size ≤ 1500
  · have e0 : decide ((a0.size : Int) > 1500) = false := decide_eq_false (by omega)
    have htl : (nz a0.data.toList).length ≤ 1500 := Nat.le_trans (List.length_filter_le _ _) (by omega)
    have hne0 : ∀ c ∈ nz a0.data.toList, c ≠ 0 := nz_mem
    have HT0 : Hid (nz (a0.data.toList.take a0.size) = nz a0.data.toList) := by show nz _ = _; rw [← hl0, List.take_length]
    clear w0
    go_enter Tryd.func8, Tryd.ntmps8
    go_wp2_with fail
    refine (hkn w hK hT).mono ?_
    rintro e w1 ⟨rfl, p1⟩
    have hT1 := hT.kept p1 k0 k1
    have hK1 : ∀ k, K k → k < w1.heap.size := fun k hk => Nat.lt_of_lt_of_le (hK k hk) p1.size
    clear hkn
    go_wp2_with fail
    go_loopg [3, 4] a0.size (fun gm tv iv wr => ∃ k : Nat, gm = a0.size - k ∧ k ≤ a0.size ∧ iv = .int .i64 k ∧ tv = sv (nz (a0.data.toList.take k)) ∧ wr = w1)
    case atStart => exact ⟨0, rfl, Nat.zero_le _, rfl, rfl, rfl⟩
    case round =>
      obtain ⟨k, hgk, hk, rfl, rfl, rfl⟩ := hrel
      have hnl : (nz (a0.data.toList.take k)).length ≤ k := Nat.le_trans (List.length_filter_le _ _) (by rw [List.length_take]; omega)
      by_cases hlt : k < a0.size
      · have hone := ext_one hlt
        have hsn := nz_snoc hlt
        by_cases hc : a0[k] = 0
        · have ec : (((a0[k]).toNat : Int) != 0) = false := by rw [hc]; rfl
          have HS : Hid (nz (a0.data.toList.take (k + 1)) = nz (a0.data.toList.take k)) := by show nz _ = _; rw [hsn, if_pos hc]
          clear hsn hone hc HT0
          go_wp2
          go_roundg (a0.size - (k + 1))
          case rel => exact ⟨k + 1, rfl, by omega, by go_num, by rw [HS.out], rfl⟩
          case measure => omega
        · have ec : (((a0[k]).toNat : Int) != 0) = true := by
            simp
            intro e
            exact hc (UInt8.toNat_inj.1 (by show (a0[k]).toNat = 0; omega))
          have HS : (⟨(nz (a0.data.toList.take k)).toArray⟩ : ByteArray) ++ a0.extract k (k + 1) = ⟨(nz (a0.data.toList.take (k + 1))).toArray⟩ := by
            rw [mk_app, hone, hsn, if_neg hc]
          have hes : (a0.extract k (k + 1)).size = 1 := congrArg List.length hone
          clear hsn hone hc HT0
          go_wp2
          go_roundg (a0.size - (k + 1))
          case rel => exact ⟨k + 1, rfl, by omega, by go_num, rfl, rfl⟩
          case measure => omega
      · have hkk : k = a0.size := by omega
        subst hkk
        rw [HT0.out]
        obtain ⟨tl, etl⟩ : ∃ tl, nz a0.data.toList = tl := ⟨_, rfl⟩
        rw [etl] at htl hne0 ⊢
        have r1 : ∀ X, Calls Tryd.prog 12 #[sv tl] X fun e w' => e = .returned (sv (esc false tl)) ∧ w' = X := fun X => rtext_any ⟨tl.toArray⟩ X (by rw [sv_size]; omega)
        have hel := esc_short false tl
        obtain ⟨q1, q2⟩ := tok_esc hne0
        have r2 := tokens_of q1 q2 (by omega) K wr hK1 hT1 k0 k1
        clear HT0 hnl hlt etl hne0 q1 q2 hel
        cases tl with
        | nil =>
          replace r2 : Calls Tryd.prog 10 #[sv []] wr fun e w' => ∃ ta tc fa fc, e = .returned (.tuple #[.slice ta 0 tc, .slice fa 0 fc]) ∧ Kept K wr w' := r2.mono fun e w' ⟨ta, tc, fa, fc, h1, _, _, h4⟩ => ⟨ta, tc, fa, fc, h1, h4⟩
          replace r1 : ∀ X, Calls Tryd.prog 12 #[sv []] X fun e w' => e = .returned (sv []) ∧ w' = X := r1
          go_wp2_with fail
          refine (r1 _).mono ?_
          rintro e w2 ⟨rfl, rfl⟩
          go_wp2_with fail
          refine r2.mono ?_
          rintro e w3 ⟨ta, tc, fa, fc, rfl, k3⟩
          go_wp2
          go_ret
          exact ⟨rfl, hfin _ (p1.trans k3)⟩
        | cons c t =>
          rw [if_neg (List.cons_ne_nil _ _)] at r2
          obtain ⟨T, eT⟩ : ∃ T : ByteArray, (⟨(c :: t).toArray⟩ : ByteArray) = T := ⟨_, rfl⟩
          have hT0 : (T.toList == []) = false := by rw [← eT, ByteArray.toList_eq]; rfl
          replace r1 : ∀ X, Calls Tryd.prog 12 #[.string T] X fun e w' => e = .returned (sv (esc false (c :: t))) ∧ w' = X := by rw [← eT]; exact r1
          obtain ⟨E, eE⟩ : ∃ E, esc false (c :: t) = E := ⟨_, rfl⟩
          rw [eE] at r2
          simp only [eE] at r1
          show Code.wp _ _ _ _ _
          have hTT : (T.toList == T.toList) = true := by simp
          have HTE : Hid (sv (c :: t) = .string T) := by show Value.string _ = _; rw [eT]
          rw [HTE.out]
          clear eE htl
          go_wp2_with fail
          refine (r1 _).mono ?_
          rintro e w2 ⟨rfl, rfl⟩
          go_wp2_with fail
          refine r2.mono ?_
          rintro e w3 ⟨ta, tc, fa, fc, rfl, ht, _, k3⟩
          obtain ⟨g, aa, ac, rfl, _, _, c0, c1, c2, c3, c4, c5⟩ := ht 0 (by simp)
          simp only [List.getElem_cons_zero, Nat.zero_mul, Nat.zero_add, List.length_nil] at c0 c1 c2 c3 c4 c5
          rw [HTE.out] at c4
          clear ht r1 r2 eT
          go_wp2
          go_ret
          exact ⟨rfl, hfin _ (p1.trans k3)⟩
  · have e0 : decide ((a0.size : Int) > 1500) = true := decide_eq_true (by omega)
    go_enter Tryd.func8, Tryd.ntmps8
    go_wp2_with fail
    refine (hkn w hK hT).mono ?_
    rintro e w1 ⟨rfl, p1⟩
    have q1 := p1
    clear p1
    go_wp2
    go_ret
    exact ⟨rfl, hfin _ q1⟩

set_option maxRecDepth 100000 in
theorem lifted (os : Os) (started : os.Started) (H : Type) (enc : TypeId × Value → H) :
    ReturnsInHanded {} Tryd.checked os 8 .any (fun w args => (Rows.tokenTextSpec.pre enc Tryd.prog Tryd.f8 [] false w args ∧ laidMetH Tryd.prog laidL w) ∧ sizedMet enc Tryd.prog Tryd.f8 (OpenSpec.ofChange Rows.tokenTextSpec) false w args)
      (Rows.tokenTextSpec.post enc Tryd.prog Tryd.f8 false true false false) := by
  refine returnsInHanded_of_change_and (C := Tryd.checked) (X := fun w _ => laidMetH Tryd.prog laidL w) (fun _ _ _ hh h => h.of_heap hh) own started (by kernel_rfl) Tryd.func8
    (ChangeSpec.witness_shaped (enc := enc) (C := Tryd.checked) (os := os) (X := fun w _ => laidMetH Tryd.prog laidL w) false (World.doorLaid Tryd.prog 41 os) #[.string ByteArray.empty] 8 rfl (World.shaped_of_RefB (by kernel_rfl) (by kernel_rfl)) (by kernel_rfl) (by kernel_rfl) (by kernel_rfl) (door_met os _)) ?_
  intro W base args ds gs before hval0 hW _ _ hL _
  have hval : ∀ (j : Nat) t v, Tryd.f8.params[j]? = some t → args[j]? = some v → Value.okWide Tryd.prog W .any base t v := hval0
  have hW' := hW
  obtain ⟨p, q, hA0, hV, rfl, hfz, hnd⟩ := hW
  have hA : DataW.TrodAll enc Tryd.prog W 0 (fun _ => true) true Tryd.f8.params.toList args.toList ds p := hA0
  rw [Tryd.params8] at hA hval
  obtain ⟨v0, vs0, d0, ds0, p0, q0, hargs, rfl, rfl, h0, r0⟩ := trodAll_cons hA
  obtain ⟨rfl, rfl, rfl⟩ := trodAll_nil r0
  obtain rfl : args = #[v0] := by cases args; simp_all
  obtain ⟨rfl, rfl⟩ := trodVars_none hV
  obtain ⟨a0, rfl, rfl, rfl, w0⟩ := open_string Tryd.underlying9 (hval 0 9 v0 rfl rfl) h0
  clear hA0 hval0
  obtain ⟨hT, h2⟩ := of_laid hL
  refine (walk a0 w0 W hT h2).mono fun e W' ⟨he, bel⟩ => ?_
  subst he
  exact ⟨_, rfl, _, _, _, [], _, [], hW', trodAll_mk1 (shut_bool Tryd.underlying4 _), (trodAll_cons_mk (shut_string Tryd.underlying9 w0) trodAll_mk0), rfl, bel.frame _, fun h => by cases h⟩

theorem over : Rows.tokenTextRow.holds Tryd.pinned (OpenSpec.ofChange Rows.tokenTextSpec) :=
  OpenClaim.holds_of_wide 8 Tryd.f8 rfl rfl rfl rfl rfl rfl rfl ⟨rfl, rfl, rfl, rfl, rfl⟩ rfl rfl rfl rfl rfl (by kernel_rfl) Tryd.func8 (by kernel_rfl)
    (of_decide_eq_true (by kernel_rfl)) (by unfold Func.isWrapper; first | (rw [if_pos (by decide +kernel)]; kernel_rfl) | (rw [if_neg (by decide +kernel)]; exact ⟨rfl, rfl⟩))
    (fun os started H enc _ => lifted os started H enc)

theorem proved : Rows.TokenTextSaid :=
  over
#print axioms proved
end Go.Proofs.YtncfgahnjakeiaaDoor.tokenText

namespace Go.Proofs.YtncfgahnjakeiaaDoor
open Go
theorem tokenText_holds : Rows.TokenTextCardSaid :=
  Claim7.holds_tied_plain_at .later [] [.data, .data] true (true, "3c7e9032ef8428b911c7510e218772c615fe61de81a5870c0a59a545b938d509") false
    tokenText.proved (fun _ h => by cases h) (by kernel_rfl) (fun _ h => by cases h) tokenText_row_tie rfl ⟨rfl, rfl⟩ (by kernel_rfl) rfl
    (fun f fn hf hfn => by
      obtain rfl : f = 8 := Option.some.inj ((show Tryd.prog.funcNamed Rows.tokenTextRow.func = some 8 by kernel_rfl).symm.trans hf) |>.symm
      obtain rfl : fn = Tryd.f8 := (Option.some.inj (Tryd.func8.symm.trans hfn)).symm
      exact ⟨by kernel_rfl, fun j t ht => by
        rw [Tryd.params8] at ht
        have hm : t ∈ [9] := by simpa using Array.mem_of_getElem? ht
        have hall : ([9].all fun u => !Tryd.prog.wantsStandIn u) = true := by kernel_rfl
        exact (show Tryd.prog.wantsStandIn t = false by simpa using List.all_eq_true.1 hall t hm)⟩)
    (by kernel_rfl)
#print axioms tokenText_holds
end Go.Proofs.YtncfgahnjakeiaaDoor
