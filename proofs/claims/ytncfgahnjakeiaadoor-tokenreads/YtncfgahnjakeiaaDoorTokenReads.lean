/-
  For every text the Go function portierelaw06.TokenReads returns true, and its argument reads afterwards as before; the two tables of the program are tied to its text.
-/
import Derived.Test.YtncfgahnjakeiaaDoorRows
import Derived.Test.YtncfgahnjakeiaaDoorLaid
import Derived.Test.YtncfgahnjakeiaaDoorRds
import Derived.Test.YtncfgahnjakeiaaDoorCards
import Derived.Test.YtncfgahnjakeiaaDoorTie
import Derived.SevenTiedAt
import Derived.BigQuiet
import Derived.Lib.QuietBelow
import Derived.WalkKit
import Derived.ProofKit
import Derived.OpenShut
import Derived.ShutString
namespace Go.Proofs.YtncfgahnjakeiaaDoor.tokenReads
open Go.ChangeShapes Go.WideShapes Go.ChangeAt Go.RowKit
open Go.ChangeMaps (open_string shut_string)
set_option linter.unusedVariables false

set_option maxRecDepth 20000 in
set_option maxHeartbeats 4000000 in
theorem walk (a0 : ByteArray) (w0 : a0.size ≤ maxLen) (w : World) (hT : Tab w) (h2 : 1 < w.heap.size) :
    Calls Tryd.prog 7 #[.string a0] w fun e w' => e = .returned (.bool true) ∧ Below w.heap.size w w' := by
  obtain ⟨K, hKe⟩ : ∃ K : Nat → Prop, (fun k => k < w.heap.size) = K := ⟨_, rfl⟩
  have hK : ∀ k, K k → k < w.heap.size := by
    rw [← hKe]
    exact fun k h => h
  have hfin : ∀ X, Kept K w X → Below w.heap.size w X := by
    rw [← hKe]
    exact fun _ h => h.below
  have k0 : K 0 := by
    rw [← hKe]
    show 0 < w.heap.size
    omega
  have k1 : K 1 := by
    rw [← hKe]
    exact h2
  clear hKe
  have hkn := fun X hX hXT => known_any K X hX hXT k0 k1
  have hl0 : a0.data.toList.length = a0.size := rfl
  by_cases hz : a0.size ≤ 1500
  · have e0 : decide ((a0.size : Int) > 1500) = false := decide_eq_false (by omega)
    have hsv : sv a0.data.toList = .string a0 := by
      show Value.string ⟨a0.data.toList.toArray⟩ = _
      rw [Array.toArray_toList]
    have r2 := fun X hX hXT => tokens_any a0.data.toList (by omega) K X hX hXT k0 k1
    have r3 := fun X => dtokens a0.data.toList (by omega) (fun k => k < X.heap.size) X (fun _ h => h)
    have hfew := tok_few16 (l := a0.data.toList) (by omega)
    have hat := tok_attrs a0.data.toList
    obtain ⟨R, eR⟩ : ∃ R, tokL a0.data.toList = R := ⟨_, rfl⟩
    simp only [hsv, eR] at r2 r3
    rw [eR] at hfew hat
    have hn1 : R.toks.length ≤ 1000000 := by omega
    have hn2 : R.flts.length ≤ 1000000 := by omega
    have HAT : Hid (∀ t ∈ R.toks, t.attrs.length ≤ 100000) := fun t ht => Nat.le_trans (hat t ht) (by omega)
    clear w0 hsv hfew hat eR hl0
    go_enter Tryd.func7, Tryd.ntmps7
    go_wp2_with fail
    refine (hkn w hK hT).mono ?_
    rintro e w1 ⟨rfl, p1⟩
    have hT1 := hT.kept p1 k0 k1
    have hK1 : ∀ k, K k → k < w1.heap.size := fun k hk => Nat.lt_of_lt_of_le (hK k hk) p1.size
    replace r2 := r2 w1 hK1 hT1
    clear hkn
    go_wp2_with fail
    refine r2.mono ?_
    rintro e w2 ⟨ta, tc, fa, fc, rfl, ha, hfa, q2⟩
    have p2 := p1.trans q2
    have hK2 : ∀ k, K k → k < w2.heap.size := fun k hk => Nat.lt_of_lt_of_le (hK k hk) p2.size
    replace r3 := r3 w2
    clear r2 q2
    go_wp2_with fail
    refine r3.mono ?_
    rintro e w3 ⟨tb, tcb, fb, fcb, rfl, hb, hfb, q3⟩
    have p3 := p2.trans (q3.mono hK2)
    have r4 := same_any R.toks ta tb tc tcb hn1 HAT.out (fun k => k < w3.heap.size) w3 (fun _ h => h) (ToksIn.at_ (ha.kept q3 (fun k hk => Nat.lt_of_lt_of_le hk q3.size))) (ToksIn.at_ hb)
    have HF : Hid (FltsIn (fun k => k < w3.heap.size) w3 fa R.flts ∧ FltsIn (fun k => k < w3.heap.size) w3 fb R.flts) := ⟨hfa.kept q3 (fun k hk => Nat.lt_of_lt_of_le hk q3.size), hfb⟩
    have HK3 : Hid (∀ k, K k → k < w3.heap.size) := fun k hk => Nat.lt_of_lt_of_le (hK k hk) p3.size
    clear r3 q3 ha hfa hb hfb p2 hT1 hK1 hK2 p1 HAT
    go_wp2_with fail
    refine r4.mono ?_
    rintro e w4 ⟨rfl, q4⟩
    have r5 := sameF_any R.flts fa fb fc fcb hn2 w4 (HF.out.1.kept q4 (fun k hk => Nat.lt_of_lt_of_le hk q4.size)) (HF.out.2.kept q4 (fun k hk => Nat.lt_of_lt_of_le hk q4.size))
    have p4 := p3.trans (q4.mono HK3.out)
    clear r4 HF HK3 p3 q4
    go_wp2_with fail
    refine r5.mono ?_
    rintro e w5 ⟨rfl, m, rfl⟩
    clear r5
    go_wp2
    go_ret
    exact ⟨rfl, hfin _ (p4.drewN m)⟩
  · have e0 : decide ((a0.size : Int) > 1500) = true := decide_eq_true (by omega)
    go_enter Tryd.func7, Tryd.ntmps7
    go_wp2_with fail
    refine (hkn w hK hT).mono ?_
    rintro e w1 ⟨rfl, p1⟩
    have q1 := p1
    clear p1
    go_wp2
    go_ret
    exact ⟨rfl, hfin _ q1⟩

set_option maxRecDepth 100000 in
theorem lifted (os : Os) (started : os.Started) (H : Type) (enc : TypeId × Value → H) :
    ReturnsInHanded {} Tryd.checked os 7 .any (fun w args => (Rows.tokenReadsSpec.pre enc Tryd.prog Tryd.f7 [] false w args ∧ laidMetH Tryd.prog laidL w) ∧ sizedMet enc Tryd.prog Tryd.f7 (OpenSpec.ofChange Rows.tokenReadsSpec) false w args)
      (Rows.tokenReadsSpec.post enc Tryd.prog Tryd.f7 false true false false) := by
  refine returnsInHanded_of_change_and (C := Tryd.checked) (X := fun w _ => laidMetH Tryd.prog laidL w) (fun _ _ _ hh h => h.of_heap hh) own started (by kernel_rfl) Tryd.func7
    (ChangeSpec.witness_shaped (enc := enc) (C := Tryd.checked) (os := os) (X := fun w _ => laidMetH Tryd.prog laidL w) false (World.doorLaid Tryd.prog 41 os) #[.string ByteArray.empty] 8 rfl (World.shaped_of_RefB (by kernel_rfl) (by kernel_rfl)) (by kernel_rfl) (by kernel_rfl) (by kernel_rfl) (door_met os _)) ?_
  intro W base args ds gs before hval0 hW _ _ hL _
  have hval : ∀ (j : Nat) t v, Tryd.f7.params[j]? = some t → args[j]? = some v → Value.okWide Tryd.prog W .any base t v := hval0
  have hW' := hW
  obtain ⟨p, q, hA0, hV, rfl, hfz, hnd⟩ := hW
  have hA : DataW.TrodAll enc Tryd.prog W 0 (fun _ => true) true Tryd.f7.params.toList args.toList ds p := hA0
  rw [Tryd.params7] at hA hval
  obtain ⟨v0, vs0, d0, ds0, p0, q0, hargs, rfl, rfl, h0, r0⟩ := trodAll_cons hA
  obtain ⟨rfl, rfl, rfl⟩ := trodAll_nil r0
  obtain rfl : args = #[v0] := by cases args; simp_all
  obtain ⟨rfl, rfl⟩ := trodVars_none hV
  obtain ⟨a0, rfl, rfl, rfl, w0⟩ := open_string Tryd.underlying9 (hval 0 9 v0 rfl rfl) h0
  clear hA0 hval0
  obtain ⟨hT, h2⟩ := of_laid hL
  refine (walk a0 w0 W hT h2).mono fun e W' ⟨he, bel⟩ => ?_
  subst he
  exact ⟨_, rfl, _, _, _, [], _, [], hW', trodAll_mk1 (shut_bool Tryd.underlying4 _), (trodAll_cons_mk (shut_string Tryd.underlying9 w0) trodAll_mk0), rfl, bel.frame _, fun h => by cases h⟩

theorem over : Rows.tokenReadsRow.holds Tryd.pinned (OpenSpec.ofChange Rows.tokenReadsSpec) :=
  OpenClaim.holds_of_wide 7 Tryd.f7 rfl rfl rfl rfl rfl rfl rfl ⟨rfl, rfl, rfl, rfl, rfl⟩ rfl rfl rfl rfl rfl (by kernel_rfl) Tryd.func7 (by kernel_rfl)
    (of_decide_eq_true (by kernel_rfl)) (by unfold Func.isWrapper; first | (rw [if_pos (by decide +kernel)]; kernel_rfl) | (rw [if_neg (by decide +kernel)]; exact ⟨rfl, rfl⟩))
    (fun os started H enc _ => lifted os started H enc)

theorem proved : Rows.TokenReadsSaid :=
  over
#print axioms proved
end Go.Proofs.YtncfgahnjakeiaaDoor.tokenReads

namespace Go.Proofs.YtncfgahnjakeiaaDoor
open Go
theorem tokenReads_holds : Rows.TokenReadsCardSaid :=
  Claim7.holds_tied_plain_at .later [] [.data, .data] true (true, "3c7e9032ef8428b911c7510e218772c615fe61de81a5870c0a59a545b938d509") false
    tokenReads.proved (fun _ h => by cases h) (by kernel_rfl) (fun _ h => by cases h) tokenReads_row_tie rfl ⟨rfl, rfl⟩ (by kernel_rfl) rfl
    (fun f fn hf hfn => by
      obtain rfl : f = 7 := Option.some.inj ((show Tryd.prog.funcNamed Rows.tokenReadsRow.func = some 7 by kernel_rfl).symm.trans hf) |>.symm
      obtain rfl : fn = Tryd.f7 := (Option.some.inj (Tryd.func7.symm.trans hfn)).symm
      exact ⟨by kernel_rfl, fun j t ht => by
        rw [Tryd.params7] at ht
        have hm : t ∈ [9] := by simpa using Array.mem_of_getElem? ht
        have hall : ([9].all fun u => !Tryd.prog.wantsStandIn u) = true := by kernel_rfl
        exact (show Tryd.prog.wantsStandIn t = false by simpa using List.all_eq_true.1 hall t hm)⟩)
    (by kernel_rfl)
#print axioms tokenReads_holds
end Go.Proofs.YtncfgahnjakeiaaDoor
