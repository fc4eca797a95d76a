/-
  For every text the Go function portierelaw06.TokenQuotes returns true, and its argument reads afterwards as before; the two tables of the program are tied to it.
-/
import Derived.Test.YtncfgahnjakeiaaDoorRows
import Derived.Test.YtncfgahnjakeiaaDoorLaid
import Derived.Test.YtncfgahnjakeiaaDoorLet
import Derived.Test.YtncfgahnjakeiaaDoorQuoM
import Derived.Test.YtncfgahnjakeiaaDoorCards
import Derived.Test.YtncfgahnjakeiaaDoorTie
import Derived.SevenTiedAt
import Derived.BigQuiet
import Derived.Lib.QuietBelow
import Derived.WalkKit
import Derived.ProofKit
import Derived.OpenShut
import Derived.ShutString
namespace Go.Proofs.YtncfgahnjakeiaaDoor.tokenQuotes
open Go.ChangeShapes Go.WideShapes Go.ChangeAt Go.RowKit
open Go.ChangeMaps (open_string shut_string)
set_option linter.unusedVariables false

set_option maxRecDepth 20000 in
set_option maxHeartbeats 4000000 in
theorem walk (a0 : ByteArray) (w0 : a0.size ≤ maxLen) (w : World) (hT : Tab w) (h2 : 1 < w.heap.size) :
    Calls Tryd.prog 4 #[.string a0] w fun e w' => e = .returned (.bool true) ∧ Below w.heap.size w w' := by
  obtain ⟨K, hKe⟩ : ∃ K : Nat → Prop, (fun k => k < w.heap.size) = K := ⟨_, rfl⟩
  have hK : ∀ k, K k → k < w.heap.size := by
    rw [← hKe]
    exact fun k h => h
  have hfin : ∀ X, Kept K w X → Below w.heap.size w X := by
    rw [← hKe]
    exact fun _ h => h.below
  have k0 : K 0 := by
    rw [← hKe]
    show 0 < w.heap.size
    omega
  have k1 : K 1 := by
    rw [← hKe]
    exact h2
  clear hKe
  have hkn := fun X hX hXT => known_any K X hX hXT k0 k1
  have hl0 : a0.data.toList.length = a0.size := rfl
  have hcv := fun (X : World) (n : Int) => conv_new X n X.heap.size rfl
  by_cases hz : a0.size ≤ 200
  · have e0 : decide ((a0.size : Int) > 200) = false := decide_eq_false (by omega)
    have HT0 : Hid (leL (a0.data.toList.take a0.size) = leL a0.data.toList) := by show leL _ = _; rw [← hl0, List.take_length]
    clear w0
    go_enter Tryd.func4, Tryd.ntmps4
    go_wp2_with fail
    refine (hkn w hK hT).mono ?_
    rintro e w1 ⟨rfl, p1⟩
    clear hkn
    go_wp2_with fail
    go_loopg [3, 4] a0.size (fun gm tv iv wr => ∃ k : Nat, gm = a0.size - k ∧ k ≤ a0.size ∧ iv = .int .i64 k ∧ tv = sv (118 :: leL (a0.data.toList.take k)) ∧ Kept K w wr)
    case atStart => exact ⟨0, rfl, Nat.zero_le _, rfl, rfl, p1⟩
    case round =>
      clear p1
      obtain ⟨k, hgk, hk, rfl, rfl, kp⟩ := hrel
      have hpl : (118 :: leL (a0.data.toList.take k)).length ≤ 201 := by rw [List.length_cons, leL_length, List.length_take]; omega
      by_cases hlt : k < a0.size
      · have HS : Hid (118 :: leL (a0.data.toList.take (k + 1)) = (118 :: leL (a0.data.toList.take k)) ++ [97 + UInt8.ofNat (a0[k].toNat % 26)]) := by
          show 118 :: leL _ = _
          rw [take_snoc hlt, leL_snoc, leB_eq]
          rfl
        obtain ⟨tl, htl⟩ : ∃ tl, 118 :: leL (a0.data.toList.take k) = tl := ⟨_, rfl⟩
        rw [htl] at hpl HS ⊢
        clear HT0 htl
        go_wp2
        go_roundg (a0.size - (k + 1))
        case rel =>
          refine ⟨k + 1, rfl, by omega, by go_num, ?_, kp.alloc (fun k hk => Nat.lt_of_lt_of_le (hK k hk) kp.size) _⟩
          rw [HS.out]
          exact congrArg Value.string (ByteArray.mk_append_mk tl [_])
        case measure => omega
      · have hkk : k = a0.size := by omega
        subst hkk
        rw [HT0.out] at hpl ⊢
        have hall : ∀ c ∈ 118 :: leL a0.data.toList, 97 ≤ c.toNat ∧ c.toNat ≤ 122 := by
          intro c hc
          rcases List.mem_cons.1 hc with rfl | hc
          · decide
          · exact le_all _ c hc
        obtain ⟨tl, etl⟩ : ∃ tl, 118 :: leL a0.data.toList = tl := ⟨_, rfl⟩
        have hne : tl ≠ [] := by rw [← etl]; intro h; cases h
        rw [etl] at hpl hall ⊢
        have hT1 := hT.kept kp k0 k1
        have s1 : 1 < wr.heap.size := Nat.lt_of_lt_of_le h2 kp.size
        have hf := fun X (hX : Kept (fun k => k < wr.heap.size) wr X) => hfin X (kp.trans (hX.mono fun k hk => Nat.lt_of_lt_of_le (hK k hk) kp.size))
        have r1 := fun X => tokens_one (tok_q1 hall) (by simp only [List.length_cons, List.length_append, List.length_nil]; omega) X
        have ca1 : (⟨#[60, 101, 32, 107, 61, 34]⟩ : ByteArray) ++ ⟨tl.toArray⟩ = ⟨(60 :: 101 :: 32 :: 107 :: 61 :: 34 :: tl).toArray⟩ := mk_app2 _ _
        have cb1 : (⟨(60 :: 101 :: 32 :: 107 :: 61 :: 34 :: tl).toArray⟩ : ByteArray) ++ ⟨#[34, 62]⟩ = ⟨(60 :: 101 :: 32 :: 107 :: 61 :: 34 :: (tl ++ [34, 62])).toArray⟩ := mk_app2 _ _
        have r2 := fun X => tokens_one (tok_q2 hall) (by simp only [List.length_cons, List.length_append, List.length_nil]; omega) X
        have ca2 : (⟨#[60, 101, 32, 107, 61, 39]⟩ : ByteArray) ++ ⟨tl.toArray⟩ = ⟨(60 :: 101 :: 32 :: 107 :: 61 :: 39 :: tl).toArray⟩ := mk_app2 _ _
        have cb2 : (⟨(60 :: 101 :: 32 :: 107 :: 61 :: 39 :: tl).toArray⟩ : ByteArray) ++ ⟨#[39, 62]⟩ = ⟨(60 :: 101 :: 32 :: 107 :: 61 :: 39 :: (tl ++ [39, 62])).toArray⟩ := mk_app2 _ _
        have r3 := fun X => tokens_one (tok_q3 hall hne) (by simp only [List.length_cons, List.length_append, List.length_nil]; omega) X
        have ca3 : (⟨#[60, 101, 32, 107, 61]⟩ : ByteArray) ++ ⟨tl.toArray⟩ = ⟨(60 :: 101 :: 32 :: 107 :: 61 :: tl).toArray⟩ := mk_app2 _ _
        have cb3 : (⟨(60 :: 101 :: 32 :: 107 :: 61 :: tl).toArray⟩ : ByteArray) ++ ⟨#[62]⟩ = ⟨(60 :: 101 :: 32 :: 107 :: 61 :: (tl ++ [62])).toArray⟩ := mk_app2 _ _
        have r4 := fun X => tokens_one (tok_q4 hall) (by simp only [List.length_cons, List.length_append, List.length_nil]; omega) X
        have ca4 : (⟨#[60, 69, 32, 32, 75, 32, 61, 32, 34]⟩ : ByteArray) ++ ⟨tl.toArray⟩ = ⟨(60 :: 69 :: 32 :: 32 :: 75 :: 32 :: 61 :: 32 :: 34 :: tl).toArray⟩ := mk_app2 _ _
        have cb4 : (⟨(60 :: 69 :: 32 :: 32 :: 75 :: 32 :: 61 :: 32 :: 34 :: tl).toArray⟩ : ByteArray) ++ ⟨#[34, 32, 62]⟩ = ⟨(60 :: 69 :: 32 :: 32 :: 75 :: 32 :: 61 :: 32 :: 34 :: (tl ++ [34, 32, 62])).toArray⟩ := mk_app2 _ _
        clear HT0 etl hlt hgk hk hcv hall hne hT kp hfin hK k0 k1 h2
        go_wp2_with fail
        refine (r1 _ s1 hT1).mono ?_
        rintro e w2 ⟨ta1, tc1, fa1, fc1, rfl, ht1, p1⟩
        have s2 : 1 < w2.heap.size := Nat.lt_of_lt_of_le s1 p1.size
        have hT2 := hT1.kept p1 (show 0 < wr.heap.size by omega) s1
        clear r1 ca1 cb1
        replace hf := fun X (hX : Kept (fun k => k < w2.heap.size) w2 X) => hf X (p1.trans (hX.mono fun k hk => Nat.lt_of_lt_of_le hk p1.size))
        go_wp2_with fail
        refine (r2 _ s2 hT2).mono ?_
        rintro e w3 ⟨ta2, tc2, fa2, fc2, rfl, ht2, p2⟩
        have s3 : 1 < w3.heap.size := Nat.lt_of_lt_of_le s2 p2.size
        have hT3 := hT2.kept p2 (show 0 < w2.heap.size by omega) s2
        clear r2 ca2 cb2
        replace hf := fun X (hX : Kept (fun k => k < w3.heap.size) w3 X) => hf X (p2.trans (hX.mono fun k hk => Nat.lt_of_lt_of_le hk p2.size))
        go_wp2_with fail
        refine (r3 _ s3 hT3).mono ?_
        rintro e w4 ⟨ta3, tc3, fa3, fc3, rfl, ht3, p3⟩
        have s4 : 1 < w4.heap.size := Nat.lt_of_lt_of_le s3 p3.size
        have hT4 := hT3.kept p3 (show 0 < w3.heap.size by omega) s3
        clear r3 ca3 cb3
        replace hf := fun X (hX : Kept (fun k => k < w4.heap.size) w4 X) => hf X (p3.trans (hX.mono fun k hk => Nat.lt_of_lt_of_le hk p3.size))
        go_wp2_with fail
        refine (r4 _ s4 hT4).mono ?_
        rintro e w5 ⟨ta4, tc4, fa4, fc4, rfl, ht4, p4⟩
        have s5 : 1 < w5.heap.size := Nat.lt_of_lt_of_le s4 p4.size
        have hT5 := hT4.kept p4 (show 0 < w4.heap.size by omega) s4
        clear r4 ca4 cb4
        replace hf := fun X (hX : Kept (fun k => k < w5.heap.size) w5 X) => hf X (p4.trans (hX.mono fun k hk => Nat.lt_of_lt_of_le hk p4.size))
        have A1 := ((ht1.at_.kept p2).kept p3).kept p4
        have A2 := (ht2.at_.kept p3).kept p4
        have A3 := ht3.at_.kept p4
        have A4 := ht4.at_
        have hs2 := same_from tc1 tc2 (by simp) (by intro t ht; rw [List.mem_singleton.1 ht]; simp) A1 A2
        have hs3 := same_from tc1 tc3 (by simp) (by intro t ht; rw [List.mem_singleton.1 ht]; simp) A1 A3
        have hs4 := same_from tc1 tc4 (by simp) (by intro t ht; rw [List.mem_singleton.1 ht]; simp) A1 A4
        obtain ⟨g, aa, ac, rfl, gl, hat, c0, c1, c2, -⟩ := ((ht1.kept (p2.mono fun _ h => h) (fun k hk => Nat.lt_of_lt_of_le hk p2.size)).kept p3 (fun k hk => Nat.lt_of_lt_of_le hk p3.size)).kept p4 (fun k hk => Nat.lt_of_lt_of_le hk p4.size) 0 (by simp)
        obtain ⟨ga, rfl, gla, a1', a2'⟩ := hat 0 (by simp)
        simp only [List.getElem_cons_zero, Nat.zero_mul, Nat.zero_add, List.length_singleton] at c2 a2' hs2 hs3 hs4
        clear A1 A2 A3 A4 ht1 ht2 ht3 ht4 p1 p2 p3 p4 hT1 hT2 hT3 hT4 hT5 s1 s2 s3 s4 s5 c0 c1 a1' hat
        go_wp2_with fail
        refine (hs2 _ (Kept.refl _ _)).mono ?_
        rintro e w6 ⟨rfl, q6⟩
        clear hs2
        go_wp2_with fail
        refine (hs3 _ q6).mono ?_
        rintro e w7 ⟨rfl, q7⟩
        clear hs3
        go_wp2_with fail
        refine (hs4 _ q7).mono ?_
        rintro e w8 ⟨rfl, q8⟩
        have L1 : w8.cell? ⟨g, 2, none⟩ = _ := (q8.cell (p := ⟨g, 2, none⟩) gl).trans c2
        have L2 : w8.cell? ⟨ga, 1, none⟩ = _ := (q8.cell (p := ⟨ga, 1, none⟩) gla).trans a2'
        clear hs4 c2 a2' q6 q7
        go_wp2
        go_ret
        exact ⟨rfl, hf _ q8⟩
  · have e0 : decide ((a0.size : Int) > 200) = true := decide_eq_true (by omega)
    go_enter Tryd.func4, Tryd.ntmps4
    go_wp2_with fail
    refine (hkn w hK hT).mono ?_
    rintro e w1 ⟨rfl, p1⟩
    have q1 := p1
    clear p1
    go_wp2
    go_ret
    exact ⟨rfl, hfin _ q1⟩

set_option maxRecDepth 100000 in
theorem lifted (os : Os) (started : os.Started) (H : Type) (enc : TypeId × Value → H) :
    ReturnsInHanded {} Tryd.checked os 4 .any (fun w args => (Rows.tokenQuotesSpec.pre enc Tryd.prog Tryd.f4 [] false w args ∧ laidMetH Tryd.prog laidL w) ∧ sizedMet enc Tryd.prog Tryd.f4 (OpenSpec.ofChange Rows.tokenQuotesSpec) false w args)
      (Rows.tokenQuotesSpec.post enc Tryd.prog Tryd.f4 false true false false) := by
  refine returnsInHanded_of_change_and (C := Tryd.checked) (X := fun w _ => laidMetH Tryd.prog laidL w) (fun _ _ _ hh h => h.of_heap hh) own started (by kernel_rfl) Tryd.func4
    (ChangeSpec.witness_shaped (enc := enc) (C := Tryd.checked) (os := os) (X := fun w _ => laidMetH Tryd.prog laidL w) false (World.doorLaid Tryd.prog 41 os) #[.string ByteArray.empty] 8 rfl (World.shaped_of_RefB (by kernel_rfl) (by kernel_rfl)) (by kernel_rfl) (by kernel_rfl) (by kernel_rfl) (door_met os _)) ?_
  intro W base args ds gs before hval0 hW _ _ hL _
  have hval : ∀ (j : Nat) t v, Tryd.f4.params[j]? = some t → args[j]? = some v → Value.okWide Tryd.prog W .any base t v := hval0
  have hW' := hW
  obtain ⟨p, q, hA0, hV, rfl, hfz, hnd⟩ := hW
  have hA : DataW.TrodAll enc Tryd.prog W 0 (fun _ => true) true Tryd.f4.params.toList args.toList ds p := hA0
  rw [Tryd.params4] at hA hval
  obtain ⟨v0, vs0, d0, ds0, p0, q0, hargs, rfl, rfl, h0, r0⟩ := trodAll_cons hA
  obtain ⟨rfl, rfl, rfl⟩ := trodAll_nil r0
  obtain rfl : args = #[v0] := by cases args; simp_all
  obtain ⟨rfl, rfl⟩ := trodVars_none hV
  obtain ⟨a0, rfl, rfl, rfl, w0⟩ := open_string Tryd.underlying9 (hval 0 9 v0 rfl rfl) h0
  clear hA0 hval0
  obtain ⟨hT, h2⟩ := of_laid hL
  refine (walk a0 w0 W hT h2).mono fun e W' ⟨he, bel⟩ => ?_
  subst he
  exact ⟨_, rfl, _, _, _, [], _, [], hW', trodAll_mk1 (shut_bool Tryd.underlying4 _), (trodAll_cons_mk (shut_string Tryd.underlying9 w0) trodAll_mk0), rfl, bel.frame _, fun h => by cases h⟩

theorem over : Rows.tokenQuotesRow.holds Tryd.pinned (OpenSpec.ofChange Rows.tokenQuotesSpec) :=
  OpenClaim.holds_of_wide 4 Tryd.f4 rfl rfl rfl rfl rfl rfl rfl ⟨rfl, rfl, rfl, rfl, rfl⟩ rfl rfl rfl rfl rfl (by kernel_rfl) Tryd.func4 (by kernel_rfl)
    (of_decide_eq_true (by kernel_rfl)) (by unfold Func.isWrapper; first | (rw [if_pos (by decide +kernel)]; kernel_rfl) | (rw [if_neg (by decide +kernel)]; exact ⟨rfl, rfl⟩))
    (fun os started H enc _ => lifted os started H enc)

theorem proved : Rows.TokenQuotesSaid :=
  over
#print axioms proved
end Go.Proofs.YtncfgahnjakeiaaDoor.tokenQuotes

namespace Go.Proofs.YtncfgahnjakeiaaDoor
open Go
theorem tokenQuotes_holds : Rows.TokenQuotesCardSaid :=
  Claim7.holds_tied_plain_at .later [] [.data, .data] true (true, "3c7e9032ef8428b911c7510e218772c615fe61de81a5870c0a59a545b938d509") false
    tokenQuotes.proved (fun _ h => by cases h) (by kernel_rfl) (fun _ h => by cases h) tokenQuotes_row_tie rfl ⟨rfl, rfl⟩ (by kernel_rfl) rfl
    (fun f fn hf hfn => by
      obtain rfl : f = 4 := Option.some.inj ((show Tryd.prog.funcNamed Rows.tokenQuotesRow.func = some 4 by kernel_rfl).symm.trans hf) |>.symm
      obtain rfl : fn = Tryd.f4 := (Option.some.inj (Tryd.func4.symm.trans hfn)).symm
      exact ⟨by kernel_rfl, fun j t ht => by
        rw [Tryd.params4] at ht
        have hm : t ∈ [9] := by simpa using Array.mem_of_getElem? ht
        have hall : ([9].all fun u => !Tryd.prog.wantsStandIn u) = true := by kernel_rfl
        exact (show Tryd.prog.wantsStandIn t = false by simpa using List.all_eq_true.1 hall t hm)⟩)
    (by kernel_rfl)
#print axioms tokenQuotes_holds
end Go.Proofs.YtncfgahnjakeiaaDoor
