/-
  For every two numbers the Go function portierelaw04.CharrefZeros returns true, and its arguments read afterwards as before; the two tables of the program are tied to its text.
-/
import Derived.Test.YtndlififfofcmaaDoorRows
import Derived.Test.YtndlififfofcmaaDoorLaid
import Derived.Test.YtndlififfofcmaaDoorKnown
import Derived.Test.YtndlififfofcmaaDoorStill
import Derived.Test.YtndlififfofcmaaDoorCards
import Derived.Test.YtndlififfofcmaaDoorTie
import Derived.SevenTiedAt
import Derived.WalkKit
import Derived.ProofKit
import Derived.OpenShut
import Derived.ShutString
namespace Go.Proofs.YtndlififfofcmaaDoor.charrefZeros
open Go.ChangeShapes Go.WideShapes Go.ChangeAt Go.RowKit
open Go.ChangeMaps (open_string shut_string)
set_option linter.unusedVariables false

set_option maxRecDepth 20000 in
set_option maxHeartbeats 4000000 in
theorem walk (a0 : Int) (a1 : Int) (w0 : (Lit.int .u16 a0).wf = true) (w1 : (Lit.int .u8 a1).wf = true) (w : World) (hT : Tab w) (h2 : 1 < w.heap.size) :
    Calls Tryd.prog 4 #[.int .u16 a0, .int .u8 a1] w fun e w' => e = .returned (.bool true) ∧ Below w.heap.size w w' := by
  obtain ⟨K, hKe⟩ : ∃ K : Nat → Prop, (fun k => k < w.heap.size) = K := ⟨_, rfl⟩
  have hK : ∀ k, K k → k < w.heap.size := by
    rw [← hKe]
    exact fun k h => h
  have hfin : ∀ X, Kept K w X → Below w.heap.size w X := by
    rw [← hKe]
    exact fun _ h => h.below
  have k0 : K 0 := by
    rw [← hKe]
    show 0 < w.heap.size
    omega
  have k1 : K 1 := by
    rw [← hKe]
    exact h2
  clear hKe
  have hkn := fun X hX hXT => known_any K X hX hXT k0 k1
  obtain ⟨n, hn, hn16⟩ : ∃ n : Nat, a0 = (n : Int) ∧ n < 65536 := by
    have h1 : IntKind.min .u16 ≤ a0 ∧ a0 ≤ IntKind.max .u16 := by simpa [Lit.wf] using w0
    have h2 : 0 ≤ a0 ∧ a0 ≤ 65535 := h1
    exact ⟨a0.toNat, by omega, by omega⟩
  obtain ⟨z, hz, hz8⟩ : ∃ z : Nat, a1 = (z : Int) ∧ z < 256 := by
    have h1 : IntKind.min .u8 ≤ a1 ∧ a1 ≤ IntKind.max .u8 := by simpa [Lit.wf] using w1
    have h2 : 0 ≤ a1 ∧ a1 ≤ 255 := h1
    exact ⟨a1.toNat, by omega, by omega⟩
  subst hn hz
  clear w0 w1
  obtain ⟨m, hm⟩ : ∃ m, z % 40 = m := ⟨_, rfl⟩
  have hmod : ((z : Int) % 40) = (m : Int) := by omega
  have hm40 : m < 40 := by omega
  clear hm
  have hd1 := fun X => digits10_kept n (by omega) K X
  have l1 : (digL 10 n).length ≤ 5 := digL_pow (by omega) (by omega) 4 n (by omega)
  have s1 : (digB 10 n).size = (digL 10 n).length := by
    show (digL 10 n).toArray.size = _
    simp
  have t1 : takeS (⟨#[38, 35]⟩ ++ digB 10 n ++ ⟨#[59]⟩) 0 false = ⟨Utf8.encode (meantC n), 3 + (digL 10 n).length, meantF n⟩ := by
    have hs : (⟨#[38, 35]⟩ ++ digB 10 n ++ ⟨#[59]⟩ : ByteArray).data.toList = 38 :: 35 :: (digL 10 n ++ 59 :: []) := by
      simp [ByteArray.data_append, digB]
    rw [takeS_zero (by rw [hs]; simp), hs]
    exact take_dec n (by omega) _ _
  have t2 : ∀ k, takeS (⟨#[38, 35]⟩ ++ zerB k ++ digB 10 n ++ ⟨#[59]⟩) 0 false = ⟨Utf8.encode (meantC n), 3 + (k + (digL 10 n).length), meantF n⟩ := by
    intro k
    have hs : (⟨#[38, 35]⟩ ++ zerB k ++ digB 10 n ++ ⟨#[59]⟩ : ByteArray).data.toList = 38 :: 35 :: ((List.replicate k 48 ++ digL 10 n) ++ 59 :: []) := by
      simp [ByteArray.data_append, digB, zerB]
    rw [takeS_zero (by rw [hs]; simp), hs]
    exact take_zeros k n (by omega) _
  have t3 : (takeS (⟨#[38, 35, 57]⟩ ++ digB 10 n ++ ⟨#[57, 57, 57, 57, 57, 57, 57, 57, 59]⟩) 0 false).text = ⟨#[239, 191, 189]⟩ := by
    have hs : (⟨#[38, 35, 57]⟩ ++ digB 10 n ++ ⟨#[57, 57, 57, 57, 57, 57, 57, 57, 59]⟩ : ByteArray).data.toList = 38 :: 35 :: ((57 :: (digL 10 n ++ [57, 57, 57, 57, 57, 57, 57, 57])) ++ 59 :: []) := by
      simp [ByteArray.data_append, digB]
    rw [takeS_zero (by rw [hs]; simp), hs, take_great n false]
    decide
  have z1 : (⟨#[38, 35]⟩ ++ digB 10 n ++ ⟨#[59]⟩ : ByteArray).size < 1000000 := by
    rw [ByteArray.size_append, ByteArray.size_append]
    show 2 + _ + 1 < _
    omega
  have z2 : ∀ k, k ≤ 40 → (⟨#[38, 35]⟩ ++ zerB k ++ digB 10 n ++ ⟨#[59]⟩ : ByteArray).size < 1000000 := by
    intro k hk
    rw [ByteArray.size_append, ByteArray.size_append, ByteArray.size_append, zerB_size]
    show 2 + _ + _ + 1 < _
    omega
  have z3 : (⟨#[38, 35, 57]⟩ ++ digB 10 n ++ ⟨#[57, 57, 57, 57, 57, 57, 57, 57, 59]⟩ : ByteArray).size < 1000000 := by
    rw [ByteArray.size_append, ByteArray.size_append]
    show 3 + _ + 9 < _
    omega
  have h1 := fun X hX hXT => take_any (⟨#[38, 35]⟩ ++ digB 10 n ++ ⟨#[59]⟩) 0 false K X hX z1 hXT
  rw [t1] at h1
  have H3 : Hid (∀ k (hk : k ≤ 40) X (hX : ∀ j, K j → j < X.heap.size) (hXT : Tab X), Calls Tryd.prog 12 #[.string (⟨#[38, 35]⟩ ++ zerB k ++ digB 10 n ++ ⟨#[59]⟩), .int .i64 0, .bool false] X fun e w' => e = .returned (refV ⟨Utf8.encode (meantC n), 3 + (k + (digL 10 n).length), meantF n⟩) ∧ Kept K X w') := by
    intro k hk X hX hXT
    have := take_any (⟨#[38, 35]⟩ ++ zerB k ++ digB 10 n ++ ⟨#[59]⟩) 0 false K X hX (z2 k hk) hXT
    rw [t2 k] at this
    exact this
  have h4 := fun X hX hXT => take_any (⟨#[38, 35, 57]⟩ ++ digB 10 n ++ ⟨#[57, 57, 57, 57, 57, 57, 57, 57, 59]⟩) 0 false K X hX z3 hXT
  obtain ⟨R, hR⟩ : ∃ R, takeS (⟨#[38, 35, 57]⟩ ++ digB 10 n ++ ⟨#[57, 57, 57, 57, 57, 57, 57, 57, 59]⟩) 0 false = R := ⟨_, rfl⟩
  rw [hR] at h4 t3
  obtain ⟨T, hT'⟩ : ∃ T, Utf8.encode (meantC n : Int) = T := ⟨_, rfl⟩
  rw [hT'] at h1 H3
  obtain ⟨rt, rn, rf⟩ := R
  dsimp only at t3
  subst t3
  obtain ⟨D, hD⟩ : ∃ D, digB 10 n = D := ⟨_, rfl⟩
  rw [hD] at hd1 s1 h1 H3 h4
  rw [← s1] at h1 H3 l1
  clear t1 t2 z1 z2 z3 hR hT' hD s1
  go_enter Tryd.func4, Tryd.ntmps4
  go_wp2_with fail
  go_loopg [5, 6] m (fun g t i wr => ∃ k : Nat, g = m - k ∧ k ≤ m ∧ i = .int .i64 k ∧ t = .string (zerB k) ∧ wr = w)
  case atStart => exact ⟨0, rfl, Nat.zero_le _, rfl, rfl, rfl⟩
  case round =>
    obtain ⟨k, hgk, hk, rfl, rfl, rfl⟩ := hrel
    have hk40 : k < 80 := by omega
    have HS : Hid (zerB k ++ ⟨#[48]⟩ = zerB (k + 1)) := zerB_succ k
    have hsz := zerB_size k
    by_cases hlt : k < m
    · obtain ⟨t, ht⟩ : ∃ t, zerB k = t := ⟨_, rfl⟩
      rw [ht] at HS hsz ⊢
      clear ht H3 h4 h1 hd1
      go_wp2
      go_roundg (m - (k + 1))
      case rel => exact ⟨k + 1, rfl, by omega, by go_num, by rw [HS.out], rfl⟩
      case measure => omega
    · have h3 := H3.out k (by omega)
      obtain ⟨t, ht⟩ : ∃ t, zerB k = t := ⟨_, rfl⟩
      rw [ht] at hsz h3 ⊢
      rw [← hsz] at h3
      have htl : t.size < 80 := by omega
      clear ht H3 HS hsz
      go_wp2_with fail
      refine (hd1 wr).mono ?_
      rintro e w1 ⟨rfl, p1⟩
      have q1 := p1
      clear p1
      go_wp2_with fail
      refine (h1 w1 (fun k hk => Nat.lt_of_lt_of_le (hK k hk) q1.size) (hT.kept q1 k0 k1)).mono ?_
      rintro e w2 ⟨rfl, p2⟩
      have q2 := q1.trans p2
      clear p2 q1
      go_wp2_with fail
      refine (h3 w2 (fun k hk => Nat.lt_of_lt_of_le (hK k hk) q2.size) (hT.kept q2 k0 k1)).mono ?_
      rintro e w3 ⟨rfl, p3⟩
      have q3 := q2.trans p3
      clear p3 q2
      go_wp2_with fail
      refine (h4 w3 (fun k hk => Nat.lt_of_lt_of_le (hK k hk) q3.size) (hT.kept q3 k0 k1)).mono ?_
      rintro e w4 ⟨rfl, p4⟩
      have q4 := q3.trans p4
      clear p4 q3
      go_wp2_with fail
      refine (hkn w4 (fun k hk => Nat.lt_of_lt_of_le (hK k hk) q4.size) (hT.kept q4 k0 k1)).mono ?_
      rintro e w5 ⟨rfl, p5⟩
      have q5 := q4.trans p5
      clear p5 q4
      go_wp2
      go_ret
      exact ⟨rfl, hfin _ q5⟩

set_option maxRecDepth 100000 in
theorem lifted (os : Os) (started : os.Started) (H : Type) (enc : TypeId × Value → H) :
    ReturnsInHanded {} Tryd.checked os 4 .any (fun w args => (Rows.charrefZerosSpec.pre enc Tryd.prog Tryd.f4 [] false w args ∧ laidMetH Tryd.prog laidL w) ∧ sizedMet enc Tryd.prog Tryd.f4 (OpenSpec.ofChange Rows.charrefZerosSpec) false w args)
      (Rows.charrefZerosSpec.post enc Tryd.prog Tryd.f4 false true false false) := by
  refine returnsInHanded_of_change_and (C := Tryd.checked) (X := fun w _ => laidMetH Tryd.prog laidL w) (fun _ _ _ hh h => h.of_heap hh) own started (by kernel_rfl) Tryd.func4
    (ChangeSpec.witness_shaped (enc := enc) (C := Tryd.checked) (os := os) (X := fun w _ => laidMetH Tryd.prog laidL w) false (World.doorLaid Tryd.prog 41 os) #[.int .u16 0, .int .u8 0] 8 rfl (World.shaped_of_RefB (by kernel_rfl) (by kernel_rfl)) (by kernel_rfl) (by kernel_rfl) (by kernel_rfl) (door_met os _)) ?_
  intro W base args ds gs before hval0 hW _ _ hL _
  have hval : ∀ (j : Nat) t v, Tryd.f4.params[j]? = some t → args[j]? = some v → Value.okWide Tryd.prog W .any base t v := hval0
  have hW' := hW
  obtain ⟨p, q, hA0, hV, rfl, hfz, hnd⟩ := hW
  have hA : DataW.TrodAll enc Tryd.prog W 0 (fun _ => true) true Tryd.f4.params.toList args.toList ds p := hA0
  rw [Tryd.params4] at hA hval
  obtain ⟨v0, vs0, d0, ds0, p0, q0, hargs, rfl, rfl, h0, r0⟩ := trodAll_cons hA
  obtain ⟨v1, vs1, d1, ds1, p1, q1, rfl, rfl, rfl, h1, r1⟩ := trodAll_cons r0
  obtain ⟨rfl, rfl, rfl⟩ := trodAll_nil r1
  obtain rfl : args = #[v0, v1] := by cases args; simp_all
  obtain ⟨rfl, rfl⟩ := trodVars_none hV
  obtain ⟨a0, rfl, rfl, rfl, w0⟩ := open_int Tryd.underlying25 (hval 0 25 v0 rfl rfl) h0
  obtain ⟨a1, rfl, rfl, rfl, w1⟩ := open_int Tryd.underlying5 (hval 1 5 v1 rfl rfl) h1
  clear hA0 hval0
  obtain ⟨hT, h2⟩ := of_laid hL
  refine (walk a0 a1 w0 w1 W hT h2).mono fun e W' ⟨he, bel⟩ => ?_
  subst he
  exact ⟨_, rfl, _, _, _, [], _, [], hW', trodAll_mk1 (shut_bool Tryd.underlying4 _), (trodAll_cons_mk (shut_int Tryd.underlying25 w0) (trodAll_cons_mk (shut_int Tryd.underlying5 w1) trodAll_mk0)), rfl, bel.frame _, fun h => by cases h⟩

theorem over : Rows.charrefZerosRow.holds Tryd.pinned (OpenSpec.ofChange Rows.charrefZerosSpec) :=
  OpenClaim.holds_of_wide 4 Tryd.f4 rfl rfl rfl rfl rfl rfl rfl ⟨rfl, rfl, rfl, rfl, rfl⟩ rfl rfl rfl rfl rfl (by kernel_rfl) Tryd.func4 (by kernel_rfl)
    (of_decide_eq_true (by kernel_rfl)) (by unfold Func.isWrapper; first | (rw [if_pos (by decide +kernel)]; kernel_rfl) | (rw [if_neg (by decide +kernel)]; exact ⟨rfl, rfl⟩))
    (fun os started H enc _ => lifted os started H enc)

theorem proved : Rows.CharrefZerosSaid :=
  over
#print axioms proved
end Go.Proofs.YtndlififfofcmaaDoor.charrefZeros

namespace Go.Proofs.YtndlififfofcmaaDoor
open Go
theorem charrefZeros_holds : Rows.CharrefZerosCardSaid :=
  Claim7.holds_tied_plain_at .later [] [.data, .data] true (true, "8f3625062479491c6e2980523c4b9d8a17347264d19ae713b62dbfba23b51b78") false
    charrefZeros.proved (fun _ h => by cases h) (by kernel_rfl) (fun _ h => by cases h) charrefZeros_row_tie rfl ⟨rfl, rfl⟩ (by kernel_rfl) rfl
    (fun f fn hf hfn => by
      obtain rfl : f = 4 := Option.some.inj ((show Tryd.prog.funcNamed Rows.charrefZerosRow.func = some 4 by kernel_rfl).symm.trans hf) |>.symm
      obtain rfl : fn = Tryd.f4 := (Option.some.inj (Tryd.func4.symm.trans hfn)).symm
      exact ⟨by kernel_rfl, fun j t ht => by
        rw [Tryd.params4] at ht
        have hm : t ∈ [25, 5] := by simpa using Array.mem_of_getElem? ht
        have hall : ([25, 5].all fun u => !Tryd.prog.wantsStandIn u) = true := by kernel_rfl
        exact (show Tryd.prog.wantsStandIn t = false by simpa using List.all_eq_true.1 hall t hm)⟩)
    (by kernel_rfl)
#print axioms charrefZeros_holds
end Go.Proofs.YtndlififfofcmaaDoor
