/-
  For every text the Go function portierelaw06.TokenRaw returns true, and its argument reads afterwards as before; the two tables of the program are tied to it.
-/
import Derived.Test.YtncfgahnjakeiaaDoorRows
import Derived.Test.YtncfgahnjakeiaaDoorLaid
import Derived.Test.YtncfgahnjakeiaaDoorLet
import Derived.Test.YtncfgahnjakeiaaDoorRawM
import Derived.Test.YtncfgahnjakeiaaDoorRText
import Derived.Test.YtncfgahnjakeiaaDoorCards
import Derived.Test.YtncfgahnjakeiaaDoorTie
import Derived.SevenTiedAt
import Derived.BigQuiet
import Derived.Lib.QuietBelow
import Derived.WalkKit
import Derived.ProofKit
import Derived.OpenShut
import Derived.ShutString
namespace Go.Proofs.YtncfgahnjakeiaaDoor.tokenRaw
open Go.ChangeShapes Go.WideShapes Go.ChangeAt Go.RowKit
open Go.ChangeMaps (open_string shut_string)
set_option linter.unusedVariables false

set_option maxRecDepth 20000 in
set_option maxHeartbeats 4000000 in
theorem walk (a0 : ByteArray) (a1 : Bool) (w0 : a0.size ≤ maxLen) (w : World) (hT : Tab w) (h2 : 1 < w.heap.size) :
    Calls Tryd.prog 5 #[.string a0, .bool a1] w fun e w' => e = .returned (.bool true) ∧ Below w.heap.size w w' := by
  obtain ⟨K, hKe⟩ : ∃ K : Nat → Prop, (fun k => k < w.heap.size) = K := ⟨_, rfl⟩
  have hK : ∀ k, K k → k < w.heap.size := by
    rw [← hKe]
    exact fun k h => h
  have hfin : ∀ X, Kept K w X → Below w.heap.size w X := by
    rw [← hKe]
    exact fun _ h => h.below
  have k0 : K 0 := by
    rw [← hKe]
    show 0 < w.heap.size
    omega
  have k1 : K 1 := by
    rw [← hKe]
    exact h2
  clear hKe
  have hkn := fun X hX hXT => known_any K X hX hXT k0 k1
  have hl0 : a0.data.toList.length = a0.size := rfl
  by_cases hz : a0.size ≤ 500
  · have e0 : decide ((a0.size : Int) > 500) = false := decide_eq_false (by omega)
    have HR0 : Hid (n3 (a0.data.toList.take a0.size) = n3 a0.data.toList) := by show n3 _ = _; rw [← hl0, List.take_length]
    clear w0
    go_enter Tryd.func5, Tryd.ntmps5
    go_wp2_with fail
    refine (hkn w hK hT).mono ?_
    rintro e w1 ⟨rfl, p1⟩
    clear hkn
    go_wp2_with fail
    go_loopg [5, 6] a0.size (fun gm tv iv wr => ∃ k : Nat, gm = a0.size - k ∧ k ≤ a0.size ∧ iv = .int .i64 k ∧ tv = sv (60 :: 98 :: 62 :: n3 (a0.data.toList.take k)) ∧ wr = w1)
    case atStart => exact ⟨0, rfl, Nat.zero_le _, rfl, rfl, rfl⟩
    case round =>
      obtain ⟨k, hgk, hk, rfl, rfl, rfl⟩ := hrel
      have hnl : (n3 (a0.data.toList.take k)).length ≤ k := Nat.le_trans (List.length_filter_le _ _) (by rw [List.length_take]; omega)
      by_cases hlt : k < a0.size
      · have hone := ext_one hlt
        have hsn := n3_snoc hlt
        have hes : (a0.extract k (k + 1)).size = 1 := congrArg List.length hone
        by_cases q1 : a0[k] = 47
        · have ec : (((a0[k]).toNat : Int) != 47) = false := by rw [q1]; rfl
          have HS : Hid (n3 (a0.data.toList.take (k + 1)) = n3 (a0.data.toList.take k)) := by show n3 _ = _; rw [hsn, if_neg (by simp [q1])]
          clear hsn hone q1 HR0
          go_wp2
          go_roundg (a0.size - (k + 1))
          case rel => exact ⟨k + 1, rfl, by omega, by go_num, by rw [HS.out], rfl⟩
          case measure => omega
        · have ec : (((a0[k]).toNat : Int) != 47) = true := by
            simp
            intro e
            exact q1 (UInt8.toNat_inj.1 (by show (a0[k]).toNat = 47; omega))
          by_cases q2 : a0[k] = 0
          · have ec2 : (((a0[k]).toNat : Int) != 0) = false := by rw [q2]; rfl
            have HS : Hid (n3 (a0.data.toList.take (k + 1)) = n3 (a0.data.toList.take k)) := by show n3 _ = _; rw [hsn, if_neg (by simp [q2])]
            clear hsn hone q1 q2 HR0
            go_wp2
            go_roundg (a0.size - (k + 1))
            case rel => exact ⟨k + 1, rfl, by omega, by go_num, by rw [HS.out], rfl⟩
            case measure => omega
          · have ec2 : (((a0[k]).toNat : Int) != 0) = true := by
              simp
              intro e
              exact q2 (UInt8.toNat_inj.1 (by show (a0[k]).toNat = 0; omega))
            by_cases q3 : a0[k] = 38
            · have ec3 : (((a0[k]).toNat : Int) != 38) = false := by rw [q3]; rfl
              have HS : Hid (n3 (a0.data.toList.take (k + 1)) = n3 (a0.data.toList.take k)) := by show n3 _ = _; rw [hsn, if_neg (by simp [q3])]
              clear hsn hone q1 q2 q3 HR0
              go_wp2
              go_roundg (a0.size - (k + 1))
              case rel => exact ⟨k + 1, rfl, by omega, by go_num, by rw [HS.out], rfl⟩
              case measure => omega
            · have ec3 : (((a0[k]).toNat : Int) != 38) = true := by
                simp
                intro e
                exact q3 (UInt8.toNat_inj.1 (by show (a0[k]).toNat = 38; omega))
              have HS : (⟨(60 :: 98 :: 62 :: n3 (a0.data.toList.take k)).toArray⟩ : ByteArray) ++ a0.extract k (k + 1) = ⟨(60 :: 98 :: 62 :: n3 (a0.data.toList.take (k + 1))).toArray⟩ := by
                rw [mk_app, hone, hsn, if_pos ⟨q1, q2, q3⟩]
                rfl
              clear hsn hone q1 q2 q3 HR0
              go_wp2
              go_roundg (a0.size - (k + 1))
              case rel => exact ⟨k + 1, rfl, by omega, by go_num, rfl, rfl⟩
              case measure => omega
      · have hkk : k = a0.size := by omega
        subst hkk
        rw [HR0.out] at hnl ⊢
        have hno := @n3_mem a0.data.toList
        obtain ⟨rl, erl⟩ : ∃ rl, n3 a0.data.toList = rl := ⟨_, rfl⟩
        rw [erl] at hnl hno ⊢
        have hT1 := hT.kept p1 k0 k1
        have s1 : 1 < wr.heap.size := Nat.lt_of_lt_of_le h2 p1.size
        have hf := fun X (hX : Kept (fun k => k < wr.heap.size) wr X) => hfin X (p1.trans (hX.mono fun k hk => Nat.lt_of_lt_of_le (hK k hk) p1.size))
        clear HR0 erl hlt hgk hk hfin hT p1 h2 k0 k1 hK
        cases a1 with
        | false =>
          have r1 := fun X => tokens_three (tok_script (fun c hc => (hno c hc).1) (fun c hc => (hno c hc).2.1)) (by simp only [List.length_cons, List.length_append, List.length_nil]; omega) X
          have c1 : (⟨#[60]⟩ : ByteArray) ++ ⟨#[115, 99, 114, 105, 112, 116]⟩ = ⟨#[60, 115, 99, 114, 105, 112, 116]⟩ := rfl
          have c2 : (⟨#[60, 115, 99, 114, 105, 112, 116]⟩ : ByteArray) ++ ⟨#[62]⟩ = ⟨#[60, 115, 99, 114, 105, 112, 116, 62]⟩ := rfl
          have c3 : (⟨#[60, 115, 99, 114, 105, 112, 116, 62]⟩ : ByteArray) ++ ⟨(60 :: 98 :: 62 :: rl).toArray⟩ = ⟨(60 :: 115 :: 99 :: 114 :: 105 :: 112 :: 116 :: 62 :: (60 :: 98 :: 62 :: rl)).toArray⟩ := mk_app2 _ _
          have c4 : (⟨(60 :: 115 :: 99 :: 114 :: 105 :: 112 :: 116 :: 62 :: (60 :: 98 :: 62 :: rl)).toArray⟩ : ByteArray) ++ ⟨#[60, 47]⟩ = ⟨(60 :: 115 :: 99 :: 114 :: 105 :: 112 :: 116 :: 62 :: ((60 :: 98 :: 62 :: rl) ++ [60, 47])).toArray⟩ := mk_app2 _ _
          have c5 : (⟨(60 :: 115 :: 99 :: 114 :: 105 :: 112 :: 116 :: 62 :: ((60 :: 98 :: 62 :: rl) ++ [60, 47])).toArray⟩ : ByteArray) ++ ⟨#[115, 99, 114, 105, 112, 116]⟩ = ⟨(60 :: 115 :: 99 :: 114 :: 105 :: 112 :: 116 :: 62 :: ((60 :: 98 :: 62 :: rl) ++ [60, 47, 115, 99, 114, 105, 112, 116])).toArray⟩ := by
            rw [mk_app2]
            congr 2
            simp
          have c6 : (⟨(60 :: 115 :: 99 :: 114 :: 105 :: 112 :: 116 :: 62 :: ((60 :: 98 :: 62 :: rl) ++ [60, 47, 115, 99, 114, 105, 112, 116])).toArray⟩ : ByteArray) ++ ⟨#[62]⟩ = ⟨(60 :: 115 :: 99 :: 114 :: 105 :: 112 :: 116 :: 62 :: ((60 :: 98 :: 62 :: rl) ++ [60, 47, 115, 99, 114, 105, 112, 116, 62])).toArray⟩ := by
            rw [mk_app2]
            congr 2
            simp
          obtain ⟨xl, exl⟩ : ∃ xl, 60 :: 98 :: 62 :: rl = xl := ⟨_, rfl⟩
          rw [exl] at c3 c4 c5 c6 ⊢
          simp only [exl] at r1
          have hxl : xl.length ≤ 503 := by rw [← exl]; simp only [List.length_cons]; omega
          clear hno hnl exl
          go_wp2_with fail
          refine (r1 _ s1 hT1).mono ?_
          rintro e w2 ⟨ta, tc, fa, fc, p, q, rfl, ht, k2⟩
          obtain ⟨g, aa, ac, rfl, _, _, _, _, _, _, d4, _⟩ := ht 1 (by simp)
          obtain ⟨g0, aa0, ac0, eg, _, _, d0, _⟩ := ht 1 (by simp)
          injection eg with eg
          injection eg with eg
          subst eg
          obtain ⟨g1, aa1, ac1, eg, _, _, f0, f1, _⟩ := ht 2 (by simp)
          injection eg with eg
          injection eg with eg
          subst eg
          simp only [List.getElem_cons_zero, List.getElem_cons_succ, Nat.one_mul, Nat.reduceAdd, Nat.reduceMul] at d0 d4 f0 f1
          have r9 := rtext_any ⟨#[]⟩ w2 (by decide)
          clear ht r1 c1 c2 c3 c4 c5 c6
          go_wp2_with fail
          refine r9.mono ?_
          rintro e w3 ⟨rfl, rfl⟩
          go_wp2
          go_ret
          exact ⟨rfl, hf _ k2⟩
        | true =>
          have r1 := fun X => tokens_three (tok_title (fun c hc => (hno c hc).1) (fun c hc => (hno c hc).2.1) (fun c hc => (hno c hc).2.2)) (by simp only [List.length_cons, List.length_append, List.length_nil]; omega) X
          have c1 : (⟨#[60]⟩ : ByteArray) ++ ⟨#[116, 105, 116, 108, 101]⟩ = ⟨#[60, 116, 105, 116, 108, 101]⟩ := rfl
          have c2 : (⟨#[60, 116, 105, 116, 108, 101]⟩ : ByteArray) ++ ⟨#[62]⟩ = ⟨#[60, 116, 105, 116, 108, 101, 62]⟩ := rfl
          have c3 : (⟨#[60, 116, 105, 116, 108, 101, 62]⟩ : ByteArray) ++ ⟨(60 :: 98 :: 62 :: rl).toArray⟩ = ⟨(60 :: 116 :: 105 :: 116 :: 108 :: 101 :: 62 :: (60 :: 98 :: 62 :: rl)).toArray⟩ := mk_app2 _ _
          have c4 : (⟨(60 :: 116 :: 105 :: 116 :: 108 :: 101 :: 62 :: (60 :: 98 :: 62 :: rl)).toArray⟩ : ByteArray) ++ ⟨#[60, 47]⟩ = ⟨(60 :: 116 :: 105 :: 116 :: 108 :: 101 :: 62 :: ((60 :: 98 :: 62 :: rl) ++ [60, 47])).toArray⟩ := mk_app2 _ _
          have c5 : (⟨(60 :: 116 :: 105 :: 116 :: 108 :: 101 :: 62 :: ((60 :: 98 :: 62 :: rl) ++ [60, 47])).toArray⟩ : ByteArray) ++ ⟨#[116, 105, 116, 108, 101]⟩ = ⟨(60 :: 116 :: 105 :: 116 :: 108 :: 101 :: 62 :: ((60 :: 98 :: 62 :: rl) ++ [60, 47, 116, 105, 116, 108, 101])).toArray⟩ := by
            rw [mk_app2]
            congr 2
            simp
          have c6 : (⟨(60 :: 116 :: 105 :: 116 :: 108 :: 101 :: 62 :: ((60 :: 98 :: 62 :: rl) ++ [60, 47, 116, 105, 116, 108, 101])).toArray⟩ : ByteArray) ++ ⟨#[62]⟩ = ⟨(60 :: 116 :: 105 :: 116 :: 108 :: 101 :: 62 :: ((60 :: 98 :: 62 :: rl) ++ [60, 47, 116, 105, 116, 108, 101, 62])).toArray⟩ := by
            rw [mk_app2]
            congr 2
            simp
          obtain ⟨xl, exl⟩ : ∃ xl, 60 :: 98 :: 62 :: rl = xl := ⟨_, rfl⟩
          rw [exl] at c3 c4 c5 c6 ⊢
          simp only [exl] at r1
          have hxl : xl.length ≤ 503 := by rw [← exl]; simp only [List.length_cons]; omega
          clear hno hnl exl
          go_wp2_with fail
          refine (r1 _ s1 hT1).mono ?_
          rintro e w2 ⟨ta, tc, fa, fc, p, q, rfl, ht, k2⟩
          obtain ⟨g, aa, ac, rfl, _, _, _, _, _, _, d4, _⟩ := ht 1 (by simp)
          obtain ⟨g0, aa0, ac0, eg, _, _, d0, _⟩ := ht 1 (by simp)
          injection eg with eg
          injection eg with eg
          subst eg
          obtain ⟨g1, aa1, ac1, eg, _, _, f0, f1, _⟩ := ht 2 (by simp)
          injection eg with eg
          injection eg with eg
          subst eg
          simp only [List.getElem_cons_zero, List.getElem_cons_succ, Nat.one_mul, Nat.reduceAdd, Nat.reduceMul] at d0 d4 f0 f1
          have r9 := rtext_any ⟨#[]⟩ w2 (by decide)
          clear ht r1 c1 c2 c3 c4 c5 c6
          go_wp2_with fail
          refine r9.mono ?_
          rintro e w3 ⟨rfl, rfl⟩
          go_wp2
          go_ret
          exact ⟨rfl, hf _ k2⟩
  · have e0 : decide ((a0.size : Int) > 500) = true := decide_eq_true (by omega)
    go_enter Tryd.func5, Tryd.ntmps5
    go_wp2_with fail
    refine (hkn w hK hT).mono ?_
    rintro e w1 ⟨rfl, p1⟩
    have q1 := p1
    clear p1
    go_wp2
    go_ret
    exact ⟨rfl, hfin _ q1⟩

set_option maxRecDepth 100000 in
theorem lifted (os : Os) (started : os.Started) (H : Type) (enc : TypeId × Value → H) :
    ReturnsInHanded {} Tryd.checked os 5 .any (fun w args => (Rows.tokenRawSpec.pre enc Tryd.prog Tryd.f5 [] false w args ∧ laidMetH Tryd.prog laidL w) ∧ sizedMet enc Tryd.prog Tryd.f5 (OpenSpec.ofChange Rows.tokenRawSpec) false w args)
      (Rows.tokenRawSpec.post enc Tryd.prog Tryd.f5 false true false false) := by
  refine returnsInHanded_of_change_and (C := Tryd.checked) (X := fun w _ => laidMetH Tryd.prog laidL w) (fun _ _ _ hh h => h.of_heap hh) own started (by kernel_rfl) Tryd.func5
    (ChangeSpec.witness_shaped (enc := enc) (C := Tryd.checked) (os := os) (X := fun w _ => laidMetH Tryd.prog laidL w) false (World.doorLaid Tryd.prog 41 os) #[.string ByteArray.empty, .bool false] 8 rfl (World.shaped_of_RefB (by kernel_rfl) (by kernel_rfl)) (by kernel_rfl) (by kernel_rfl) (by kernel_rfl) (door_met os _)) ?_
  intro W base args ds gs before hval0 hW _ _ hL _
  have hval : ∀ (j : Nat) t v, Tryd.f5.params[j]? = some t → args[j]? = some v → Value.okWide Tryd.prog W .any base t v := hval0
  have hW' := hW
  obtain ⟨p, q, hA0, hV, rfl, hfz, hnd⟩ := hW
  have hA : DataW.TrodAll enc Tryd.prog W 0 (fun _ => true) true Tryd.f5.params.toList args.toList ds p := hA0
  rw [Tryd.params5] at hA hval
  obtain ⟨v0, vs0, d0, ds0, p0, q0, hargs, rfl, rfl, h0, r0⟩ := trodAll_cons hA
  obtain ⟨v1, vs1, d1, ds1, p1, q1, rfl, rfl, rfl, h1, r1⟩ := trodAll_cons r0
  obtain ⟨rfl, rfl, rfl⟩ := trodAll_nil r1
  obtain rfl : args = #[v0, v1] := by cases args; simp_all
  obtain ⟨rfl, rfl⟩ := trodVars_none hV
  obtain ⟨a0, rfl, rfl, rfl, w0⟩ := open_string Tryd.underlying9 (hval 0 9 v0 rfl rfl) h0
  obtain ⟨a1, rfl, rfl, rfl⟩ := open_bool Tryd.underlying4 (hval 1 4 v1 rfl rfl) h1
  clear hA0 hval0
  obtain ⟨hT, h2⟩ := of_laid hL
  refine (walk a0 a1 w0 W hT h2).mono fun e W' ⟨he, bel⟩ => ?_
  subst he
  exact ⟨_, rfl, _, _, _, [], _, [], hW', trodAll_mk1 (shut_bool Tryd.underlying4 _), (trodAll_cons_mk (shut_string Tryd.underlying9 w0) (trodAll_cons_mk (shut_bool Tryd.underlying4 _) trodAll_mk0)), rfl, bel.frame _, fun h => by cases h⟩

theorem over : Rows.tokenRawRow.holds Tryd.pinned (OpenSpec.ofChange Rows.tokenRawSpec) :=
  OpenClaim.holds_of_wide 5 Tryd.f5 rfl rfl rfl rfl rfl rfl rfl ⟨rfl, rfl, rfl, rfl, rfl⟩ rfl rfl rfl rfl rfl (by kernel_rfl) Tryd.func5 (by kernel_rfl)
    (of_decide_eq_true (by kernel_rfl)) (by unfold Func.isWrapper; first | (rw [if_pos (by decide +kernel)]; kernel_rfl) | (rw [if_neg (by decide +kernel)]; exact ⟨rfl, rfl⟩))
    (fun os started H enc _ => lifted os started H enc)

theorem proved : Rows.TokenRawSaid :=
  over
#print axioms proved
end Go.Proofs.YtncfgahnjakeiaaDoor.tokenRaw

namespace Go.Proofs.YtncfgahnjakeiaaDoor
open Go
theorem tokenRaw_holds : Rows.TokenRawCardSaid :=
  Claim7.holds_tied_plain_at .later [] [.data, .data] true (true, "3c7e9032ef8428b911c7510e218772c615fe61de81a5870c0a59a545b938d509") false
    tokenRaw.proved (fun _ h => by cases h) (by kernel_rfl) (fun _ h => by cases h) tokenRaw_row_tie rfl ⟨rfl, rfl⟩ (by kernel_rfl) rfl
    (fun f fn hf hfn => by
      obtain rfl : f = 5 := Option.some.inj ((show Tryd.prog.funcNamed Rows.tokenRawRow.func = some 5 by kernel_rfl).symm.trans hf) |>.symm
      obtain rfl : fn = Tryd.f5 := (Option.some.inj (Tryd.func5.symm.trans hfn)).symm
      exact ⟨by kernel_rfl, fun j t ht => by
        rw [Tryd.params5] at ht
        have hm : t ∈ [9, 4] := by simpa using Array.mem_of_getElem? ht
        have hall : ([9, 4].all fun u => !Tryd.prog.wantsStandIn u) = true := by kernel_rfl
        exact (show Tryd.prog.wantsStandIn t = false by simpa using List.all_eq_true.1 hall t hm)⟩)
    (by kernel_rfl)
#print axioms tokenRaw_holds
end Go.Proofs.YtncfgahnjakeiaaDoor
