/-
  For every text, every number and every byte the Go function portierelaw03.NamesBytes returns true, and its arguments read afterwards as before.
-/
import Derived.Test.YtcmfkodmppneoaaRows
import Derived.Test.YtcmfkodmppneoaaAmong
import Derived.Test.YtcmfkodmppneoaaGrowth
import Derived.Test.YtcmfkodmppneoaaKnown
import Derived.Test.YtcmfkodmppneoaaFacts
import Derived.Deep.DeepCutAuto
import Derived.Deep.RegionHeld3
import Derived.WalkKit
import Derived.ProofKit
import Derived.OpenShut
import Derived.ShutString
namespace Go.Proofs.Ytcmfkodmppneoaa.namesBytes
open Go.ChangeShapes Go.WideShapes Go.ChangeAt Go.RowKit
open Go.ChangeMaps (open_string shut_string)
set_option linter.unusedVariables false

theorem own : ownKnob Try.prog.godebug = none := by kernel_rfl

theorem walk (a0 : ByteArray) (a1 : Int) (a2 : Int) (w0 : a0.size ≤ maxLen) (w1 : (Lit.int .u8 a1).wf = true) (w2 : (Lit.int .u8 a2).wf = true) (w : World) :
    Calls Try.prog 3 #[.string a0, .int .u8 a1, .int .u8 a2] w fun e w' => e = .returned (.bool true) ∧ Below w.heap.size w w' := by
  obtain ⟨K, hKe⟩ : ∃ K : Nat → Prop, (fun k => k < w.heap.size) = K := ⟨_, rfl⟩
  have hK : ∀ k, K k → k < w.heap.size := by
    rw [← hKe]
    exact fun k h => h
  have hfin : ∀ X, Kept K w X → Below w.heap.size w X := by
    rw [← hKe]
    exact fun _ h => h.below
  clear hKe
  have hkn := fun X (hX : ∀ k, K k → k < X.heap.size) => known_any K X hX
  obtain ⟨z, rfl⟩ := u8_of w1
  obtain ⟨c, rfl⟩ := u8_of w2
  clear w2 w1 w0
  have hvs := fun X hX => valid_any a0 K X hX
  by_cases hz : a0.size ≤ 40
  · have e0 : decide ((a0.size : Int) > 40) = false := by simp; omega
    by_cases hv : validP a0.toList = true
    · rw [hv] at hvs
      have hs0 : 0 < a0.size := by
        rw [ByteArray.toList_eq] at hv
        obtain ⟨a, r, h, _⟩ := valid_parts hv
        have : a0.data.toList.length = a0.size := rfl
        rw [h] at this
        simp at this
        omega
      obtain ⟨j, hj⟩ : ∃ j, z.toNat % a0.size = j := ⟨_, rfl⟩
      have hjl : j < a0.size := by rw [← hj]; exact Nat.mod_lt _ hs0
      have hmod : ((z.toNat : Int) % (a0.size : Int)) = (j : Int) := by rw [← hj]; exact (Int.natCast_emod _ _).symm
      have hbt : validP (a0.extract 0 (1 + j) ++ ⟨#[c]⟩ ++ a0.extract (1 + j) a0.size : ByteArray).toList = fineP c := by
        rw [ByteArray.toList_eq] at hv
        rw [ByteArray.toList_eq, ByteArray.data_append, ByteArray.data_append, Array.toList_append, Array.toList_append, ← ByteArray.toList_eq (a0.extract _ _), ← ByteArray.toList_eq (a0.extract _ _), extract_list, extract_list]
        have e1 : a0.data.toList.take a0.size = a0.data.toList := List.take_length
        rw [e1, List.drop_zero]
        exact byte_valid hv hz c (by omega)
      have HV : Hid (validP (a0.extract 0 (1 + j) ++ ⟨#[c]⟩ ++ a0.extract (1 + j) a0.size : ByteArray).toList = fineP c) := hbt
      have hmodt : ((z.toNat : Int).tmod (a0.size : Int)) = (j : Int) := by rw [Int.tmod_eq_emod_of_nonneg (by omega)]; exact hmod
      have h256 : z.toNat < 256 := z.toNat_lt
      clear hbt hv hj hmod
      go_enter Try.func3, Try.ntmps3
      go_wp2_with fail
      refine (hvs w hK).mono ?_
      rintro e w1 ⟨rfl, p1⟩
      have q1 := p1
      clear p1
      go_wp2_with fail
      refine (hkn w1 (fun k hk => Nat.lt_of_lt_of_le (hK k hk) q1.size)).mono ?_
      rintro e w2 ⟨rfl, p2⟩
      have q2 := q1.trans p2
      clear p2 q1
      go_upto_region 4 with fail
      go_cut [8] (fun s8 wc => s8 = .bool (fineP c) ∧ wc = w2)
      case first =>
        have cls : (97 ≤ c.toNat ∧ c.toNat ≤ 122) ∨ (122 < c.toNat) ∨ (48 ≤ c.toNat ∧ c.toNat ≤ 57) ∨ (c.toNat = 45) ∨ (c.toNat = 46) ∨ (c.toNat = 95) ∨ (c.toNat < 48 ∧ c.toNat ≠ 45 ∧ c.toNat ≠ 46) ∨ (57 < c.toNat ∧ c.toNat < 97 ∧ c.toNat ≠ 95) := by omega
        clear HV
        rcases cls with g | g | g | g | g | g | g | g
        · have hfine : fineP c = true := (fine_iff c).2 (by omega)
          have e1 : decide ((c.toNat : Int) ≥ 97) = true := by simp; omega
          have e2 : decide ((c.toNat : Int) ≤ 122) = true := by simp; omega
          clear g
          go_wp2
          go_meet
          case rel => exact ⟨by rw [hfine], rfl⟩
        · have hfine : fineP c = false := Bool.eq_false_iff.2 fun h => by have := (fine_iff c).1 h; omega
          have e1 : decide ((c.toNat : Int) ≥ 97) = true := by simp; omega
          have e2 : decide ((c.toNat : Int) ≤ 122) = false := by simp; omega
          have e3 : decide ((c.toNat : Int) ≥ 48) = true := by simp; omega
          have e4 : decide ((c.toNat : Int) ≤ 57) = false := by simp; omega
          have e5 : ((c.toNat : Int) == 45) = false := by simp; omega
          have e6 : ((c.toNat : Int) == 46) = false := by simp; omega
          have e7 : ((c.toNat : Int) == 95) = false := by simp; omega
          clear g
          go_wp2
          go_meet
          case rel => exact ⟨by rw [hfine], rfl⟩
        · have hfine : fineP c = true := (fine_iff c).2 (by omega)
          have e1 : decide ((c.toNat : Int) ≥ 97) = false := by simp; omega
          have e2 : decide ((c.toNat : Int) ≥ 48) = true := by simp; omega
          have e3 : decide ((c.toNat : Int) ≤ 57) = true := by simp; omega
          clear g
          go_wp2
          go_meet
          case rel => exact ⟨by rw [hfine], rfl⟩
        · have hfine : fineP c = true := (fine_iff c).2 (by omega)
          have e1 : decide ((c.toNat : Int) ≥ 97) = false := by simp; omega
          have e2 : decide ((c.toNat : Int) ≥ 48) = false := by simp; omega
          have e3 : ((c.toNat : Int) == 45) = true := by simp; omega
          clear g
          go_wp2
          go_meet
          case rel => exact ⟨by rw [hfine], rfl⟩
        · have hfine : fineP c = true := (fine_iff c).2 (by omega)
          have e1 : decide ((c.toNat : Int) ≥ 97) = false := by simp; omega
          have e2 : decide ((c.toNat : Int) ≥ 48) = false := by simp; omega
          have e3 : ((c.toNat : Int) == 45) = false := by simp; omega
          have e4 : ((c.toNat : Int) == 46) = true := by simp; omega
          clear g
          go_wp2
          go_meet
          case rel => exact ⟨by rw [hfine], rfl⟩
        · have hfine : fineP c = true := (fine_iff c).2 (by omega)
          have e1 : decide ((c.toNat : Int) ≥ 97) = false := by simp; omega
          have e2 : decide ((c.toNat : Int) ≥ 48) = true := by simp; omega
          have e3 : decide ((c.toNat : Int) ≤ 57) = false := by simp; omega
          have e4 : ((c.toNat : Int) == 45) = false := by simp; omega
          have e5 : ((c.toNat : Int) == 46) = false := by simp; omega
          have e6 : ((c.toNat : Int) == 95) = true := by simp; omega
          clear g
          go_wp2
          go_meet
          case rel => exact ⟨by rw [hfine], rfl⟩
        · have hfine : fineP c = false := Bool.eq_false_iff.2 fun h => by have := (fine_iff c).1 h; omega
          have e1 : decide ((c.toNat : Int) ≥ 97) = false := by simp; omega
          have e2 : decide ((c.toNat : Int) ≥ 48) = false := by simp; omega
          have e3 : ((c.toNat : Int) == 45) = false := by simp; omega
          have e4 : ((c.toNat : Int) == 46) = false := by simp; omega
          have e5 : ((c.toNat : Int) == 95) = false := by simp; omega
          clear g
          go_wp2
          go_meet
          case rel => exact ⟨by rw [hfine], rfl⟩
        · have hfine : fineP c = false := Bool.eq_false_iff.2 fun h => by have := (fine_iff c).1 h; omega
          have e1 : decide ((c.toNat : Int) ≥ 97) = false := by simp; omega
          have e2 : decide ((c.toNat : Int) ≥ 48) = true := by simp; omega
          have e3 : decide ((c.toNat : Int) ≤ 57) = false := by simp; omega
          have e4 : ((c.toNat : Int) == 45) = false := by simp; omega
          have e5 : ((c.toNat : Int) == 46) = false := by simp; omega
          have e6 : ((c.toNat : Int) == 95) = false := by simp; omega
          clear g
          go_wp2
          go_meet
          case rel => exact ⟨by rw [hfine], rfl⟩
      case rest =>
        obtain ⟨rfl, rfl⟩ := hcut
        have hcv := conv_drew wc c
        obtain ⟨kk, hkk⟩ : ∃ kk : Nat, 1 + j = kk := ⟨_, rfl⟩
        have hkI : (1 + (j : Int)) = (kk : Int) := by omega
        have hkl : kk ≤ a0.size := by omega
        rw [hkk] at HV
        rw [hkI]
        clear hkk hkI hjl hmodt
        go_wp2_with fail
        have q3 : Kept K w (wc.alloc (.cells #[.int .u8 (c.toNat : Int)] 5)).drew := (q2.alloc (fun k hk => Nat.lt_of_lt_of_le (hK k hk) q2.size) _).drew
        have hvt := valid_any (a0.extract 0 kk ++ ⟨#[c]⟩ ++ a0.extract kk a0.size) K (wc.alloc (.cells #[.int .u8 (c.toNat : Int)] 5)).drew (fun k hk => Nat.lt_of_lt_of_le (hK k hk) q3.size)
        rw [HV.out] at hvt
        clear HV
        obtain ⟨fc, hfc⟩ : ∃ b, fineP c = b := ⟨_, rfl⟩
        rw [hfc] at hvt ⊢
        clear hfc
        go_region_with fail
        go_wp2_with fail
        refine hvt.mono ?_
        rintro e w4 ⟨rfl, p4⟩
        have q4 := q3.trans p4
        clear p4 q3 hvt
        go_wp2
        go_ret
        exact ⟨by simp, hfin _ q4⟩
    · have hv : validP a0.toList = false := by simpa using hv
      rw [hv] at hvs
      go_enter Try.func3, Try.ntmps3
      go_wp2_with fail
      refine (hvs w hK).mono ?_
      rintro e w1 ⟨rfl, p1⟩
      have q1 := p1
      clear p1
      go_wp2_with fail
      refine (hkn w1 (fun k hk => Nat.lt_of_lt_of_le (hK k hk) q1.size)).mono ?_
      rintro e w2 ⟨rfl, p2⟩
      have q2 := q1.trans p2
      clear p2 q1
      go_wp2
      go_ret
      exact ⟨rfl, hfin _ q2⟩
  · have e0 : decide ((a0.size : Int) > 40) = true := by simp; omega
    go_enter Try.func3, Try.ntmps3
    go_wp2_with fail
    refine (hkn w hK).mono ?_
    rintro e w1 ⟨rfl, p1⟩
    have q1 := p1
    clear p1
    go_wp2
    go_ret
    exact ⟨rfl, hfin _ q1⟩

set_option maxRecDepth 100000 in
theorem lifted (os : Os) (started : os.Started) (H : Type) (enc : TypeId × Value → H) :
    ReturnsInHanded {} Try.checked os 3 .any (Rows.namesBytesSpec.pre6 enc Try.prog Try.f3 Rows.namesBytesRow.domain false) (Rows.namesBytesSpec.post enc Try.prog Try.f3 false true false false) := by
  refine returnsInHanded_of_change (C := Try.checked) own started (by kernel_rfl) Try.func3
    (ChangeSpec.witness6 (enc := enc) (C := Try.checked) false ⟨#[], #[.string ByteArray.empty, .int .u8 0, .int .u8 0], []⟩ 8 (by kernel_rfl) (by kernel_rfl) (by kernel_rfl) (by kernel_rfl)) ?_
  intro W base args ds gs before hval0 hW hcnd _
  have hval : ∀ (j : Nat) t v, Try.f3.params[j]? = some t → args[j]? = some v → Value.okWide Try.prog W .any base t v := hval0
  have hW' := hW
  obtain ⟨p, q, hA0, hV, rfl, hfz, hnd⟩ := hW
  have hA : DataW.TrodAll enc Try.prog W 0 (fun _ => true) true Try.f3.params.toList args.toList ds p := hA0
  rw [Try.params3] at hA hval
  obtain ⟨v0, vs0, d0, ds0, p0, q0, hargs, rfl, rfl, h0, r0⟩ := trodAll_cons hA
  obtain ⟨v1, vs1, d1, ds1, p1, q1, rfl, rfl, rfl, h1, r1⟩ := trodAll_cons r0
  obtain ⟨v2, vs2, d2, ds2, p2, q2, rfl, rfl, rfl, h2, r2⟩ := trodAll_cons r1
  obtain ⟨rfl, rfl, rfl⟩ := trodAll_nil r2
  obtain rfl : args = #[v0, v1, v2] := by cases args; simp_all
  obtain ⟨rfl, rfl⟩ := trodVars_none hV
  obtain ⟨a0, rfl, rfl, rfl, w0⟩ := open_string Try.underlying9 (hval 0 9 v0 rfl rfl) h0
  obtain ⟨a1, rfl, rfl, rfl, w1⟩ := open_int Try.underlying5 (hval 1 5 v1 rfl rfl) h1
  obtain ⟨a2, rfl, rfl, rfl, w2⟩ := open_int Try.underlying5 (hval 2 5 v2 rfl rfl) h2
  clear hA0 hval0
  refine (walk a0 a1 a2 w0 w1 w2 W).mono fun e W' ⟨he, bel⟩ => ?_
  subst he
  exact ⟨_, rfl, _, _, _, [], _, [], hW', trodAll_mk1 (shut_bool Try.underlying4 _), (trodAll_cons_mk (shut_string Try.underlying9 w0) (trodAll_cons_mk (shut_int Try.underlying5 w1) (trodAll_cons_mk (shut_int Try.underlying5 w2) trodAll_mk0))), rfl, bel.frame _, fun h => by cases h⟩

theorem over : Rows.namesBytesRow.holds Try.pinned (OpenSpec.ofChange Rows.namesBytesSpec) :=
  OpenClaim.holds_of_wide 3 Try.f3 rfl rfl rfl rfl rfl rfl rfl ⟨rfl, rfl, rfl, rfl, rfl⟩ rfl rfl rfl rfl rfl (by kernel_rfl) Try.func3 (by kernel_rfl)
    (of_decide_eq_true (by kernel_rfl)) (by unfold Func.isWrapper; first | (rw [if_pos (by decide +kernel)]; kernel_rfl) | (rw [if_neg (by decide +kernel)]; exact ⟨rfl, rfl⟩))
    (fun os started H enc _ => lifted os started H enc)

theorem proved : Rows.NamesBytesSaid :=
  over
#print axioms proved
end Go.Proofs.Ytcmfkodmppneoaa.namesBytes

namespace Go.Proofs.Ytcmfkodmppneoaa
theorem namesBytes_holds : Rows.NamesBytesSaid := namesBytes.proved
#print axioms namesBytes_holds
end Go.Proofs.Ytcmfkodmppneoaa
