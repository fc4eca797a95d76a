/-
  For every number and every text the Go function portierelaw03.NamesLetters returns true, and its arguments read afterwards as before.
-/
import Derived.Test.YtcmfkodmppneoabRows
import Derived.Test.YtcmfkodmppneoabOne
import Derived.Test.YtcmfkodmppneoabKnown
import Derived.Test.YtcmfkodmppneoabBig
import Derived.WalkKit
import Derived.ProofKit
import Derived.OpenShut
import Derived.ShutString
namespace Go.Proofs.Ytcmfkodmppneoab.namesLetters
open Go.ChangeShapes Go.WideShapes Go.ChangeAt Go.RowKit
open Go.ChangeMaps (open_string shut_string)
set_option linter.unusedVariables false

theorem own : ownKnob Try.prog.godebug = none := by kernel_rfl

theorem walk (a0 : Int) (a1 : ByteArray) (w0 : (Lit.int .u8 a0).wf = true) (w1 : a1.size ≤ maxLen) (w : World) :
    Calls Try.prog 3 #[.int .u8 a0, .string a1] w fun e w' => e = .returned (.bool true) ∧ Below w.heap.size w w' := by
  obtain ⟨K, hKe⟩ : ∃ K : Nat → Prop, (fun k => k < w.heap.size) = K := ⟨_, rfl⟩
  have hK : ∀ k, K k → k < w.heap.size := by
    rw [← hKe]
    exact fun k h => h
  have hfin : ∀ X, Kept K w X → Below w.heap.size w X := by
    rw [← hKe]
    exact fun _ h => h.below
  clear hKe
  have hkn := fun X (hX : ∀ k, K k → k < X.heap.size) => known_any K X hX
  obtain ⟨k, rfl⟩ := u8_of w0
  have hone := one_any k a1 K w hK
  obtain ⟨n, hn⟩ : ∃ n, oneB k.toNat a1 = n := ⟨_, rfl⟩
  rw [hn] at hone
  clear hn w1 w0
  have hvs := fun X hX => valid_any n K X hX
  by_cases hz : n.size ≤ 60
  · have e0 : decide ((n.size : Int) > 60) = false := by simp; omega
    by_cases hv : validP n.toList = true
    · rw [hv] at hvs
      rw [ByteArray.toList_eq] at hv
      have HV : Hid (validP n.data.toList = true) := hv
      clear hv
      go_enter Try.func3, Try.ntmps3
      go_wp2_with fail
      refine (hone).mono ?_
      rintro e w1 ⟨rfl, p1⟩
      have q1 := p1
      clear p1
      go_wp2_with fail
      refine (hvs w1 (fun k hk => Nat.lt_of_lt_of_le (hK k hk) q1.size)).mono ?_
      rintro e w2 ⟨rfl, p2⟩
      have q2 := q1.trans p2
      clear p2 q1
      go_wp2_with fail
      refine (hkn w2 (fun k hk => Nat.lt_of_lt_of_le (hK k hk) q2.size)).mono ?_
      rintro e w3 ⟨rfl, p3⟩
      have q3 := q2.trans p3
      clear p3 q2
      go_wp2_with fail
      go_loopw [6, 7, 8, 9, 26, 27, 28, 29, 30, 31, 32, 33, 34, 35, 36, 37, 38, 39, 40, 41, 42, 43, 44, 45, 46, 47] (fun g b i _ _ _ _ _ _ _ _ _ _ _ _ _ _ _ _ _ _ _ _ _ _ _ wr => ∃ k : Nat, k ≤ n.size ∧ i = .int .i64 k ∧ g = .string (txt (bigL (n.data.toList.take k))) ∧ b = .bool ((n.data.toList.take k).any smallP) ∧ Kept K w wr) (fun _ _ i _ _ _ _ _ _ _ _ _ _ _ _ _ _ _ _ _ _ _ _ _ _ _ _ => n.size - (intOf i).toNat)
      case atStart => exact ⟨0, Nat.zero_le _, rfl, rfl, rfl, q3⟩
      case round =>
        clear q3
        obtain ⟨k, hk, rfl, rfl, rfl, hkp⟩ := hrel
        by_cases hlt : k < n.size
        · have HB : Hid (bigL (n.data.toList.take (k + 1)) = bigL (n.data.toList.take k) ++ [bigB n[k]]) := bigL_snoc hlt
          have HA : Hid ((n.data.toList.take (k + 1)).any smallP = ((n.data.toList.take k).any smallP || smallP n[k])) := any_snoc hlt
          have hpl := bigL_len (s := n) k
          obtain ⟨g, hg⟩ : ∃ g, bigL (n.data.toList.take k) = g := ⟨_, rfl⟩
          obtain ⟨b, hb⟩ : ∃ b, (n.data.toList.take k).any smallP = b := ⟨_, rfl⟩
          rw [hg] at HB hpl ⊢
          rw [hb] at HA ⊢
          clear hg hb
          have hgl : g.length ≤ 60 := by omega
          have HK : Hid (∀ k, K k → k < wr.heap.size) := fun k hk => Nat.lt_of_lt_of_le (hK k hk) hkp.size
          have cls : (97 ≤ n[k].toNat ∧ n[k].toNat ≤ 122) ∨ n[k].toNat < 97 ∨ 122 < n[k].toNat := by omega
          rcases cls with hc | hc | hc
          · have e1 : decide ((n[k].toNat : Int) ≥ 97) = true := by simp; omega
            have e2 : decide ((n[k].toNat : Int) ≤ 122) = true := by simp; omega
            have g1 : (97 : Int) ≤ (n[k].toNat : Int) := by omega
            have g2 : (n[k].toNat : Int) ≤ 122 := by omega
            have hcv := conv_at wr ((n[k].toNat : Int) - 32) (bigB n[k]) (by rw [bigB_nat hc]; omega)
            have HT : Hid (txt (g ++ [bigB n[k]]) = txt (bigL (n.data.toList.take (k + 1)))) := by
              show txt _ = txt _
              rw [HB.out]
            have HS : Hid (smallP n[k] = true) := by
              show smallP _ = _
              exact (small_iff _).2 hc
            clear hc HB hpl
            go_wp2
            go_roundw
            case rel =>
              refine ⟨k + 1, by omega, by go_num, ?_, ?_, hkp.alloc HK.out _⟩
              · rw [← HT.out]
                exact congrArg Value.string (ByteArray.mk_append_mk g [_])
              · rw [HA.out, HS.out]
                rw [Bool.or_true]
            case measure => simp [intOf]; omega
          · have e1 : decide ((n[k].toNat : Int) ≥ 97) = false := by simp; omega
            have hcv := conv_at wr (n[k].toNat : Int) (bigB n[k]) (by rw [bigB_eq (by omega)])
            have HT : Hid (txt (g ++ [bigB n[k]]) = txt (bigL (n.data.toList.take (k + 1)))) := by
              show txt _ = txt _
              rw [HB.out]
            have HS : Hid (smallP n[k] = false) := by
              show smallP _ = _
              exact Bool.eq_false_iff.2 fun h => by have := (small_iff _).1 h; omega
            clear hc HB hpl
            go_wp2
            go_roundw
            case rel =>
              refine ⟨k + 1, by omega, by go_num, ?_, ?_, hkp.alloc HK.out _⟩
              · rw [← HT.out]
                exact congrArg Value.string (ByteArray.mk_append_mk g [_])
              · rw [HA.out, HS.out]
                rw [Bool.or_false]
            case measure => simp [intOf]; omega
          · have e1 : decide ((n[k].toNat : Int) ≥ 97) = true := by simp; omega
            have e2 : decide ((n[k].toNat : Int) ≤ 122) = false := by simp; omega
            have hcv := conv_at wr (n[k].toNat : Int) (bigB n[k]) (by rw [bigB_eq (by omega)])
            have HT : Hid (txt (g ++ [bigB n[k]]) = txt (bigL (n.data.toList.take (k + 1)))) := by
              show txt _ = txt _
              rw [HB.out]
            have HS : Hid (smallP n[k] = false) := by
              show smallP _ = _
              exact Bool.eq_false_iff.2 fun h => by have := (small_iff _).1 h; omega
            clear hc HB hpl
            go_wp2
            go_roundw
            case rel =>
              refine ⟨k + 1, by omega, by go_num, ?_, ?_, hkp.alloc HK.out _⟩
              · rw [← HT.out]
                exact congrArg Value.string (ByteArray.mk_append_mk g [_])
              · rw [HA.out, HS.out]
                rw [Bool.or_false]
            case measure => simp [intOf]; omega
        · obtain rfl : k = n.size := by omega
          have hv := HV.out
          have htk : n.data.toList.take n.size = n.data.toList := List.take_length
          rw [htk, any_small hv]
          have hsz : (txt (bigL n.data.toList)).size = n.size := by
            show (bigL n.data.toList).toArray.size = _
            rw [List.size_toArray]
            unfold bigL
            rw [List.length_map]
            rfl
          have h1 := fun X hX => valid_any (txt (bigL n.data.toList)) K X hX
          have h2 := fun X hX => custom_any (txt (bigL n.data.toList)) K X hX
          have h3 := fun X => void_any (txt (bigL n.data.toList)) K X
          have h4 := fun X hX => lower_any (txt (bigL n.data.toList)) K X hX (by omega)
          rw [ByteArray.toList_mk, big_valid hv] at h1
          rw [ByteArray.toList_mk, big_custom hv] at h2
          rw [ByteArray.toList_mk, big_void hv] at h3
          have hlow : (⟨(lowL (txt (bigL n.data.toList)).data.toList).toArray⟩ : ByteArray) = n := by
            show (⟨(lowL (bigL n.data.toList)).toArray⟩ : ByteArray) = n
            rw [low_bigL hv]
          rw [hlow] at h4
          obtain ⟨g, hg⟩ : ∃ g, txt (bigL n.data.toList) = g := ⟨_, rfl⟩
          rw [hg] at h1 h2 h3 h4 ⊢
          clear hg hlow hsz htk hv HV
          have q4 := hkp
          clear hkp
          go_wp2_with fail
          refine (h1 wr (fun k hk => Nat.lt_of_lt_of_le (hK k hk) q4.size)).mono ?_
          rintro e w5 ⟨rfl, p5⟩
          have q5 := q4.trans p5
          clear p5 q4
          go_wp2_with fail
          refine (h2 w5 (fun k hk => Nat.lt_of_lt_of_le (hK k hk) q5.size)).mono ?_
          rintro e w6 ⟨rfl, p6⟩
          have q6 := q5.trans p6
          clear p6 q5
          go_wp2_with fail
          refine (h3 w6).mono ?_
          rintro e w7 ⟨rfl, p7⟩
          have q7 := q6.trans p7
          clear p7 q6
          go_wp2_with fail
          refine (h4 w7 (fun k hk => Nat.lt_of_lt_of_le (hK k hk) q7.size)).mono ?_
          rintro e w8 ⟨rfl, p8⟩
          have q8 := q7.trans p8
          clear p8 q7
          go_wp2
          go_ret
          exact ⟨rfl, hfin _ q8⟩
    · have hv : validP n.toList = false := by simpa using hv
      rw [hv] at hvs
      go_enter Try.func3, Try.ntmps3
      go_wp2_with fail
      refine (hone).mono ?_
      rintro e w1 ⟨rfl, p1⟩
      have q1 := p1
      clear p1
      go_wp2_with fail
      refine (hvs w1 (fun k hk => Nat.lt_of_lt_of_le (hK k hk) q1.size)).mono ?_
      rintro e w2 ⟨rfl, p2⟩
      have q2 := q1.trans p2
      clear p2 q1
      go_wp2_with fail
      refine (hkn w2 (fun k hk => Nat.lt_of_lt_of_le (hK k hk) q2.size)).mono ?_
      rintro e w3 ⟨rfl, p3⟩
      have q3 := q2.trans p3
      clear p3 q2
      go_wp2
      go_ret
      exact ⟨rfl, hfin _ q3⟩
  · have e0 : decide ((n.size : Int) > 60) = true := by simp; omega
    go_enter Try.func3, Try.ntmps3
    go_wp2_with fail
    refine (hone).mono ?_
    rintro e w1 ⟨rfl, p1⟩
    have q1 := p1
    clear p1
    go_wp2_with fail
    refine (hkn w1 (fun k hk => Nat.lt_of_lt_of_le (hK k hk) q1.size)).mono ?_
    rintro e w2 ⟨rfl, p2⟩
    have q2 := q1.trans p2
    clear p2 q1
    go_wp2
    go_ret
    exact ⟨rfl, hfin _ q2⟩

set_option maxRecDepth 100000 in
theorem lifted (os : Os) (started : os.Started) (H : Type) (enc : TypeId × Value → H) :
    ReturnsInHanded {} Try.checked os 3 .any (Rows.namesLettersSpec.pre6 enc Try.prog Try.f3 Rows.namesLettersRow.domain false) (Rows.namesLettersSpec.post enc Try.prog Try.f3 false true false false) := by
  refine returnsInHanded_of_change (C := Try.checked) own started (by kernel_rfl) Try.func3
    (ChangeSpec.witness6 (enc := enc) (C := Try.checked) false ⟨#[], #[.int .u8 0, .string ByteArray.empty], []⟩ 8 (by kernel_rfl) (by kernel_rfl) (by kernel_rfl) (by kernel_rfl)) ?_
  intro W base args ds gs before hval0 hW hcnd _
  have hval : ∀ (j : Nat) t v, Try.f3.params[j]? = some t → args[j]? = some v → Value.okWide Try.prog W .any base t v := hval0
  have hW' := hW
  obtain ⟨p, q, hA0, hV, rfl, hfz, hnd⟩ := hW
  have hA : DataW.TrodAll enc Try.prog W 0 (fun _ => true) true Try.f3.params.toList args.toList ds p := hA0
  rw [Try.params3] at hA hval
  obtain ⟨v0, vs0, d0, ds0, p0, q0, hargs, rfl, rfl, h0, r0⟩ := trodAll_cons hA
  obtain ⟨v1, vs1, d1, ds1, p1, q1, rfl, rfl, rfl, h1, r1⟩ := trodAll_cons r0
  obtain ⟨rfl, rfl, rfl⟩ := trodAll_nil r1
  obtain rfl : args = #[v0, v1] := by cases args; simp_all
  obtain ⟨rfl, rfl⟩ := trodVars_none hV
  obtain ⟨a0, rfl, rfl, rfl, w0⟩ := open_int Try.underlying5 (hval 0 5 v0 rfl rfl) h0
  obtain ⟨a1, rfl, rfl, rfl, w1⟩ := open_string Try.underlying9 (hval 1 9 v1 rfl rfl) h1
  clear hA0 hval0
  refine (walk a0 a1 w0 w1 W).mono fun e W' ⟨he, bel⟩ => ?_
  subst he
  exact ⟨_, rfl, _, _, _, [], _, [], hW', trodAll_mk1 (shut_bool Try.underlying4 _), (trodAll_cons_mk (shut_int Try.underlying5 w0) (trodAll_cons_mk (shut_string Try.underlying9 w1) trodAll_mk0)), rfl, bel.frame _, fun h => by cases h⟩

theorem over : Rows.namesLettersRow.holds Try.pinned (OpenSpec.ofChange Rows.namesLettersSpec) :=
  OpenClaim.holds_of_wide 3 Try.f3 rfl rfl rfl rfl rfl rfl rfl ⟨rfl, rfl, rfl, rfl, rfl⟩ rfl rfl rfl rfl rfl (by kernel_rfl) Try.func3 (by kernel_rfl)
    (of_decide_eq_true (by kernel_rfl)) (by unfold Func.isWrapper; first | (rw [if_pos (by decide +kernel)]; kernel_rfl) | (rw [if_neg (by decide +kernel)]; exact ⟨rfl, rfl⟩))
    (fun os started H enc _ => lifted os started H enc)

theorem proved : Rows.NamesLettersSaid :=
  over
#print axioms proved
end Go.Proofs.Ytcmfkodmppneoab.namesLetters

namespace Go.Proofs.Ytcmfkodmppneoab
theorem namesLetters_holds : Rows.NamesLettersSaid := namesLetters.proved
#print axioms namesLetters_holds
end Go.Proofs.Ytcmfkodmppneoab
