/-
  For every two texts the Go function portierelaw06.TokenDoctype returns true, and its arguments read afterwards as before; the two tables of the program are tied to its text.
-/
import Derived.Test.YtncfgahnjakeiaaDoorRows
import Derived.Test.YtncfgahnjakeiaaDoorLaid
import Derived.Test.YtncfgahnjakeiaaDoorPts
import Derived.Test.YtncfgahnjakeiaaDoorLet
import Derived.Test.YtncfgahnjakeiaaDoorCards
import Derived.Test.YtncfgahnjakeiaaDoorTie
import Derived.SevenTiedAt
import Derived.WalkKit
import Derived.ProofKit
import Derived.OpenShut
import Derived.ShutString
namespace Go.Proofs.YtncfgahnjakeiaaDoor.tokenDoctype
open Go.ChangeShapes Go.WideShapes Go.ChangeAt Go.RowKit
open Go.ChangeMaps (open_string shut_string)
set_option linter.unusedVariables false

set_option maxRecDepth 20000 in
set_option maxHeartbeats 4000000 in
theorem walk (a0 : ByteArray) (a1 : ByteArray) (w0 : a0.size ≤ maxLen) (w1 : a1.size ≤ maxLen) (w : World) (hT : Tab w) (h2 : 1 < w.heap.size) :
    Calls Tryd.prog 6 #[.string a0, .string a1] w fun e w' => e = .returned (.bool true) ∧ Below w.heap.size w w' := by
  obtain ⟨K, hKe⟩ : ∃ K : Nat → Prop, (fun k => k < w.heap.size) = K := ⟨_, rfl⟩
  have hK : ∀ k, K k → k < w.heap.size := by
    rw [← hKe]
    exact fun k h => h
  have hfin : ∀ X, Kept K w X → Below w.heap.size w X := by
    rw [← hKe]
    exact fun _ h => h.below
  have k0 : K 0 := by
    rw [← hKe]
    show 0 < w.heap.size
    omega
  have k1 : K 1 := by
    rw [← hKe]
    exact h2
  clear hKe
  have hkn := fun X hX hXT => known_any K X hX hXT k0 k1
  have hl0 : a0.data.toList.length = a0.size := rfl
  have hl1 : a1.data.toList.length = a1.size := rfl
  have hcv := fun (X : World) (n : Int) => conv_new X n X.heap.size rfl
  by_cases hz : a0.size ≤ 100
  · have e0 : decide ((a0.size : Int) > 100) = false := decide_eq_false (by omega)
    by_cases hz1 : a1.size ≤ 100
    · have e1 : decide ((a1.size : Int) > 100) = false := decide_eq_false (by omega)
      have HT0 : Hid (leL (a0.data.toList.take a0.size) = leL a0.data.toList) := by show leL _ = _; rw [← hl0, List.take_length]
      have HR0 : Hid (ng (a1.data.toList.take a1.size) = ng a1.data.toList) := by show ng _ = _; rw [← hl1, List.take_length]
      clear w0 w1
      go_enter Tryd.func6, Tryd.ntmps6
      go_wp2_with fail
      refine (hkn w hK hT).mono ?_
      rintro e w1 ⟨rfl, p1⟩
      clear hkn
      go_wp2_with fail
      go_loopg [5, 6] a0.size (fun gm tv iv wr => ∃ k : Nat, gm = a0.size - k ∧ k ≤ a0.size ∧ iv = .int .i64 k ∧ tv = sv (leL (a0.data.toList.take k)) ∧ Kept K w wr)
      case atStart => exact ⟨0, rfl, Nat.zero_le _, rfl, rfl, p1⟩
      case round =>
        clear p1
        obtain ⟨k, hgk, hk, rfl, rfl, kp⟩ := hrel
        have hpl : (leL (a0.data.toList.take k)).length ≤ 100 := by rw [leL_length, List.length_take]; omega
        by_cases hlt : k < a0.size
        · have HS : Hid (leL (a0.data.toList.take (k + 1)) = leL (a0.data.toList.take k) ++ [97 + UInt8.ofNat (a0[k].toNat % 26)]) := by
            show leL _ = _
            rw [take_snoc hlt, leL_snoc, leB_eq]
          obtain ⟨tl, htl⟩ : ∃ tl, leL (a0.data.toList.take k) = tl := ⟨_, rfl⟩
          rw [htl] at hpl HS ⊢
          clear HT0 HR0 htl
          go_wp2
          go_roundg (a0.size - (k + 1))
          case rel =>
            refine ⟨k + 1, rfl, by omega, by go_num, ?_, kp.alloc (fun k hk => Nat.lt_of_lt_of_le (hK k hk) kp.size) _⟩
            rw [HS.out]
            exact congrArg Value.string (ByteArray.mk_append_mk tl [_])
          case measure => omega
        · have hkk : k = a0.size := by omega
          subst hkk
          rw [HT0.out] at hpl ⊢
          have hall := le_all a0.data.toList
          obtain ⟨tl, etl⟩ : ∃ tl, leL a0.data.toList = tl := ⟨_, rfl⟩
          rw [etl] at hpl hall ⊢
          have hT1 := hT.kept kp k0 k1
          have hK1 : ∀ k, K k → k < wr.heap.size := fun k hk => Nat.lt_of_lt_of_le (hK k hk) kp.size
          obtain ⟨W1, hW1⟩ : ∃ W, wr = W := ⟨_, rfl⟩
          rw [hW1] at kp hT1 hK1 ⊢
          clear HT0 etl hW1 hlt hgk hk hcv
          go_wp2_with fail
          go_loopg [7, 8] a1.size (fun gm tv iv wr => ∃ k : Nat, gm = a1.size - k ∧ k ≤ a1.size ∧ iv = .int .i64 k ∧ tv = sv (ng (a1.data.toList.take k)) ∧ wr = W1)
          case atStart => exact ⟨0, rfl, Nat.zero_le _, rfl, rfl, rfl⟩
          case round =>
            obtain ⟨k, hgk, hk, rfl, rfl, rfl⟩ := hrel
            have hnl : (ng (a1.data.toList.take k)).length ≤ k := Nat.le_trans (List.length_filter_le _ _) (by rw [List.length_take]; omega)
            by_cases hlt : k < a1.size
            · have hone := ext_one hlt
              have hsn := ng_snoc hlt
              by_cases hc : a1[k] = 62
              · have ec : (((a1[k]).toNat : Int) != 62) = false := by rw [hc]; rfl
                have HS : Hid (ng (a1.data.toList.take (k + 1)) = ng (a1.data.toList.take k)) := by show ng _ = _; rw [hsn, if_pos hc]
                clear hsn hone hc HR0
                go_wp2
                go_roundg (a1.size - (k + 1))
                case rel => exact ⟨k + 1, rfl, by omega, by go_num, by rw [HS.out], rfl⟩
                case measure => omega
              · have ec : (((a1[k]).toNat : Int) != 62) = true := by
                  simp
                  intro e
                  exact hc (UInt8.toNat_inj.1 (by show (a1[k]).toNat = 62; omega))
                have HS : (⟨(ng (a1.data.toList.take k)).toArray⟩ : ByteArray) ++ a1.extract k (k + 1) = ⟨(ng (a1.data.toList.take (k + 1))).toArray⟩ := by
                  rw [mk_app, hone, hsn, if_neg hc]
                have hes : (a1.extract k (k + 1)).size = 1 := congrArg List.length hone
                clear hsn hone hc HR0
                go_wp2
                go_roundg (a1.size - (k + 1))
                case rel => exact ⟨k + 1, rfl, by omega, by go_num, rfl, rfl⟩
                case measure => omega
            · have hkk : k = a1.size := by omega
              subst hkk
              rw [HR0.out] at hnl ⊢
              have hno := @ng_mem a1.data.toList
              obtain ⟨rl, erl⟩ : ∃ rl, ng a1.data.toList = rl := ⟨_, rfl⟩
              rw [erl] at hnl hno ⊢
              have hx : ∀ c ∈ tl ++ 32 :: rl, c ≠ 62 := by
                intro c hc
                rcases List.mem_append.1 hc with hc | hc
                · have := hall c hc
                  intro e
                  rw [e] at this
                  exact absurd this.1 (by decide)
                · rcases List.mem_cons.1 hc with rfl | hc
                  · decide
                  · exact hno c hc
              obtain ⟨nm, pp, q1, q2, q3⟩ := tok_dt (tl ++ 32 :: rl) hx
              have r1 := tokens_of q1 q2 (by simp only [List.length_cons, List.length_append, List.length_nil]; omega) K wr hK1 hT1 k0 k1
              rw [show (tl ++ 32 :: rl) ++ [62, 120] = tl ++ 32 :: (rl ++ [62, 120]) by simp] at r1
              have c1 : (⟨#[60, 33, 68, 111, 99, 84, 121, 112, 101, 32]⟩ : ByteArray) ++ ⟨tl.toArray⟩ = ⟨(60 :: 33 :: 68 :: 111 :: 99 :: 84 :: 121 :: 112 :: 101 :: 32 :: tl).toArray⟩ := mk_app2 _ _
              have c2 : (⟨(60 :: 33 :: 68 :: 111 :: 99 :: 84 :: 121 :: 112 :: 101 :: 32 :: tl).toArray⟩ : ByteArray) ++ ⟨#[32]⟩ = ⟨(60 :: 33 :: 68 :: 111 :: 99 :: 84 :: 121 :: 112 :: 101 :: 32 :: (tl ++ [32])).toArray⟩ := mk_app2 _ _
              have c3 : (⟨(60 :: 33 :: 68 :: 111 :: 99 :: 84 :: 121 :: 112 :: 101 :: 32 :: (tl ++ [32])).toArray⟩ : ByteArray) ++ ⟨rl.toArray⟩ = ⟨(60 :: 33 :: 68 :: 111 :: 99 :: 84 :: 121 :: 112 :: 101 :: 32 :: (tl ++ 32 :: rl)).toArray⟩ := by
                rw [mk_app2]
                congr 2
                simp
              have c4 : (⟨(60 :: 33 :: 68 :: 111 :: 99 :: 84 :: 121 :: 112 :: 101 :: 32 :: (tl ++ 32 :: rl)).toArray⟩ : ByteArray) ++ ⟨#[62, 120]⟩ = ⟨(60 :: 33 :: 68 :: 111 :: 99 :: 84 :: 121 :: 112 :: 101 :: 32 :: (tl ++ 32 :: (rl ++ [62, 120]))).toArray⟩ := by
                rw [mk_app2]
                congr 2
                simp
              clear HR0 erl hx hno q1 q2 hlt hgk hk
              by_cases ht0 : tl = []
              · have hemp : tl.isEmpty = true := by rw [ht0]; rfl
                clear ht0
                go_wp2_with fail
                refine r1.mono ?_
                rintro e w2 ⟨ta, tc, fa, fc, rfl, ht, _, k2⟩
                obtain ⟨g, aa, ac, rfl, _, _, d0, _⟩ := ht 0 (by simp)
                simp only [List.getElem_cons_zero, Nat.zero_mul] at d0
                clear ht r1 q3
                go_wp2
                go_ret
                exact ⟨rfl, hfin _ (kp.trans k2)⟩
              · have hnm := q3 tl rl hall ht0 rfl
                subst hnm
                have hemp : nm.isEmpty = false := by cases nm with | nil => exact absurd rfl ht0 | cons => rfl
                clear ht0 q3
                go_wp2_with fail
                refine r1.mono ?_
                rintro e w2 ⟨ta, tc, fa, fc, rfl, ht, _, k2⟩
                obtain ⟨g, aa, ac, rfl, _, _, d0, d1, _⟩ := ht 0 (by simp)
                obtain ⟨g', aa', ac', eg, _, _, _, _, _, _, d4, _⟩ := ht 1 (by simp)
                injection eg with eg
                injection eg with eg
                subst eg
                simp only [List.getElem_cons_zero, List.getElem_cons_succ, Nat.zero_mul, Nat.zero_add, Nat.one_mul, Nat.reduceAdd] at d0 d1 d4
                clear ht r1
                go_wp2
                go_ret
                exact ⟨rfl, hfin _ (kp.trans k2)⟩
    · have e1 : decide ((a1.size : Int) > 100) = true := decide_eq_true (by omega)
      go_enter Tryd.func6, Tryd.ntmps6
      go_wp2_with fail
      refine (hkn w hK hT).mono ?_
      rintro e w1 ⟨rfl, p1⟩
      have q1 := p1
      clear p1
      go_wp2
      go_ret
      exact ⟨rfl, hfin _ q1⟩
  · have e0 : decide ((a0.size : Int) > 100) = true := decide_eq_true (by omega)
    go_enter Tryd.func6, Tryd.ntmps6
    go_wp2_with fail
    refine (hkn w hK hT).mono ?_
    rintro e w1 ⟨rfl, p1⟩
    have q1 := p1
    clear p1
    go_wp2
    go_ret
    exact ⟨rfl, hfin _ q1⟩

set_option maxRecDepth 100000 in
theorem lifted (os : Os) (started : os.Started) (H : Type) (enc : TypeId × Value → H) :
    ReturnsInHanded {} Tryd.checked os 6 .any (fun w args => (Rows.tokenDoctypeSpec.pre enc Tryd.prog Tryd.f6 [] false w args ∧ laidMetH Tryd.prog laidL w) ∧ sizedMet enc Tryd.prog Tryd.f6 (OpenSpec.ofChange Rows.tokenDoctypeSpec) false w args)
      (Rows.tokenDoctypeSpec.post enc Tryd.prog Tryd.f6 false true false false) := by
  refine returnsInHanded_of_change_and (C := Tryd.checked) (X := fun w _ => laidMetH Tryd.prog laidL w) (fun _ _ _ hh h => h.of_heap hh) own started (by kernel_rfl) Tryd.func6
    (ChangeSpec.witness_shaped (enc := enc) (C := Tryd.checked) (os := os) (X := fun w _ => laidMetH Tryd.prog laidL w) false (World.doorLaid Tryd.prog 41 os) #[.string ByteArray.empty, .string ByteArray.empty] 8 rfl (World.shaped_of_RefB (by kernel_rfl) (by kernel_rfl)) (by kernel_rfl) (by kernel_rfl) (by kernel_rfl) (door_met os _)) ?_
  intro W base args ds gs before hval0 hW _ _ hL _
  have hval : ∀ (j : Nat) t v, Tryd.f6.params[j]? = some t → args[j]? = some v → Value.okWide Tryd.prog W .any base t v := hval0
  have hW' := hW
  obtain ⟨p, q, hA0, hV, rfl, hfz, hnd⟩ := hW
  have hA : DataW.TrodAll enc Tryd.prog W 0 (fun _ => true) true Tryd.f6.params.toList args.toList ds p := hA0
  rw [Tryd.params6] at hA hval
  obtain ⟨v0, vs0, d0, ds0, p0, q0, hargs, rfl, rfl, h0, r0⟩ := trodAll_cons hA
  obtain ⟨v1, vs1, d1, ds1, p1, q1, rfl, rfl, rfl, h1, r1⟩ := trodAll_cons r0
  obtain ⟨rfl, rfl, rfl⟩ := trodAll_nil r1
  obtain rfl : args = #[v0, v1] := by cases args; simp_all
  obtain ⟨rfl, rfl⟩ := trodVars_none hV
  obtain ⟨a0, rfl, rfl, rfl, w0⟩ := open_string Tryd.underlying9 (hval 0 9 v0 rfl rfl) h0
  obtain ⟨a1, rfl, rfl, rfl, w1⟩ := open_string Tryd.underlying9 (hval 1 9 v1 rfl rfl) h1
  clear hA0 hval0
  obtain ⟨hT, h2⟩ := of_laid hL
  refine (walk a0 a1 w0 w1 W hT h2).mono fun e W' ⟨he, bel⟩ => ?_
  subst he
  exact ⟨_, rfl, _, _, _, [], _, [], hW', trodAll_mk1 (shut_bool Tryd.underlying4 _), (trodAll_cons_mk (shut_string Tryd.underlying9 w0) (trodAll_cons_mk (shut_string Tryd.underlying9 w1) trodAll_mk0)), rfl, bel.frame _, fun h => by cases h⟩

theorem over : Rows.tokenDoctypeRow.holds Tryd.pinned (OpenSpec.ofChange Rows.tokenDoctypeSpec) :=
  OpenClaim.holds_of_wide 6 Tryd.f6 rfl rfl rfl rfl rfl rfl rfl ⟨rfl, rfl, rfl, rfl, rfl⟩ rfl rfl rfl rfl rfl (by kernel_rfl) Tryd.func6 (by kernel_rfl)
    (of_decide_eq_true (by kernel_rfl)) (by unfold Func.isWrapper; first | (rw [if_pos (by decide +kernel)]; kernel_rfl) | (rw [if_neg (by decide +kernel)]; exact ⟨rfl, rfl⟩))
    (fun os started H enc _ => lifted os started H enc)

theorem proved : Rows.TokenDoctypeSaid :=
  over
#print axioms proved
end Go.Proofs.YtncfgahnjakeiaaDoor.tokenDoctype

namespace Go.Proofs.YtncfgahnjakeiaaDoor
open Go
theorem tokenDoctype_holds : Rows.TokenDoctypeCardSaid :=
  Claim7.holds_tied_plain_at .later [] [.data, .data] true (true, "3c7e9032ef8428b911c7510e218772c615fe61de81a5870c0a59a545b938d509") false
    tokenDoctype.proved (fun _ h => by cases h) (by kernel_rfl) (fun _ h => by cases h) tokenDoctype_row_tie rfl ⟨rfl, rfl⟩ (by kernel_rfl) rfl
    (fun f fn hf hfn => by
      obtain rfl : f = 6 := Option.some.inj ((show Tryd.prog.funcNamed Rows.tokenDoctypeRow.func = some 6 by kernel_rfl).symm.trans hf) |>.symm
      obtain rfl : fn = Tryd.f6 := (Option.some.inj (Tryd.func6.symm.trans hfn)).symm
      exact ⟨by kernel_rfl, fun j t ht => by
        rw [Tryd.params6] at ht
        have hm : t ∈ [9, 9] := by simpa using Array.mem_of_getElem? ht
        have hall : ([9, 9].all fun u => !Tryd.prog.wantsStandIn u) = true := by kernel_rfl
        exact (show Tryd.prog.wantsStandIn t = false by simpa using List.all_eq_true.1 hall t hm)⟩)
    (by kernel_rfl)
#print axioms tokenDoctype_holds
end Go.Proofs.YtncfgahnjakeiaaDoor
