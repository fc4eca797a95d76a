/-
  For every number and every text the Go function portierelaw04.CharrefNumbers returns true, and its arguments read afterwards as before; the two tables of the program are tied to its text.
-/
import Derived.Test.YtndlififfofcmaaDoorRows
import Derived.Test.YtndlififfofcmaaDoorLaid
import Derived.Test.YtndlififfofcmaaDoorKnown
import Derived.Test.YtndlififfofcmaaDoorRNum
import Derived.Test.YtndlififfofcmaaDoorMore
import Derived.Test.YtndlififfofcmaaDoorCards
import Derived.Test.YtndlififfofcmaaDoorTie
import Derived.SevenTiedAt
import Derived.WalkKit
import Derived.ProofKit
import Derived.OpenShut
import Derived.ShutString
namespace Go.Proofs.YtndlififfofcmaaDoor.charrefNumbers
open Go.ChangeShapes Go.WideShapes Go.ChangeAt Go.RowKit
open Go.ChangeMaps (open_string shut_string)
set_option linter.unusedVariables false

set_option maxRecDepth 20000 in
set_option maxHeartbeats 4000000 in
theorem walk (a0 : Int) (a1 : ByteArray) (w0 : (Lit.int .u32 a0).wf = true) (w1 : a1.size ≤ maxLen) (w : World) (hT : Tab w) (h2 : 1 < w.heap.size) :
    Calls Tryd.prog 7 #[.int .u32 a0, .string a1] w fun e w' => e = .returned (.bool true) ∧ Below w.heap.size w w' := by
  obtain ⟨K, hKe⟩ : ∃ K : Nat → Prop, (fun k => k < w.heap.size) = K := ⟨_, rfl⟩
  have hK : ∀ k, K k → k < w.heap.size := by
    rw [← hKe]
    exact fun k h => h
  have hfin : ∀ X, Kept K w X → Below w.heap.size w X := by
    rw [← hKe]
    exact fun _ h => h.below
  have k0 : K 0 := by
    rw [← hKe]
    show 0 < w.heap.size
    omega
  have k1 : K 1 := by
    rw [← hKe]
    exact h2
  clear hKe
  have hkn := fun X hX hXT => known_any K X hX hXT k0 k1
  obtain ⟨m, rfl⟩ : ∃ m : Nat, a0 = (m : Int) := by
    have h1 : IntKind.min .u32 ≤ a0 ∧ a0 ≤ IntKind.max .u32 := by simpa [Lit.wf] using w0
    have h2 : 0 ≤ a0 ∧ a0 ≤ 4294967295 := h1
    exact ⟨a0.toNat, by omega⟩
  have hm32 : m < 4294967296 := by
    have h1 : IntKind.min .u32 ≤ (m : Int) ∧ (m : Int) ≤ IntKind.max .u32 := by simpa [Lit.wf] using w0
    have h2 : 0 ≤ (m : Int) ∧ (m : Int) ≤ 4294967295 := h1
    omega
  obtain ⟨c, hc⟩ : ∃ c, m % 1179648 = c := ⟨_, rfl⟩
  have hcI : (m : Int) % 1179648 = (c : Int) := by omega
  have hc2 : c < 1179648 := by omega
  clear hc w0
  by_cases hz : a1.size ≤ 100
  · have e0 : decide ((a1.size : Int) > 100) = false := by simp; omega
    have hd1 := fun X => digits10_kept c (by omega) K X
    have hd2 := fun X => digits16_kept c (by omega) K X
    have l1 : (digL 10 c).length ≤ 7 := digL_pow (by omega) (by omega) 6 c (by omega)
    have l2 : (digL 16 c).length ≤ 6 := digL_pow (by omega) (by omega) 5 c (by omega)
    have s1 : (digB 10 c).size = (digL 10 c).length := by
      show (digL 10 c).toArray.size = _
      simp
    have s2 : (digB 16 c).size = (digL 16 c).length := by
      show (digL 16 c).toArray.size = _
      simp
    have t1 : takeS (⟨#[38, 35]⟩ ++ digB 10 c ++ ⟨#[59]⟩ ++ a1) 0 false = ⟨Utf8.encode (meantC c), 3 + (digL 10 c).length, meantF c⟩ := by
      have hs : (⟨#[38, 35]⟩ ++ digB 10 c ++ ⟨#[59]⟩ ++ a1 : ByteArray).data.toList = 38 :: 35 :: (digL 10 c ++ 59 :: a1.data.toList) := by
        simp [ByteArray.data_append, digB]
      rw [takeS_zero (by rw [hs]; simp), hs]
      exact take_dec c (by omega) _ _
    have t2 : takeS (⟨#[38, 35, 120]⟩ ++ digB 16 c ++ ⟨#[59]⟩ ++ a1) 0 true = ⟨Utf8.encode (meantC c), 4 + (digL 16 c).length, meantF c⟩ := by
      have hs : (⟨#[38, 35, 120]⟩ ++ digB 16 c ++ ⟨#[59]⟩ ++ a1 : ByteArray).data.toList = 38 :: 35 :: 120 :: (digL 16 c ++ 59 :: a1.data.toList) := by
        simp [ByteArray.data_append, digB]
      rw [takeS_zero (by rw [hs]; simp), hs]
      exact take_hex c (by omega) _ _
    have z1 : (⟨#[38, 35]⟩ ++ digB 10 c ++ ⟨#[59]⟩ ++ a1 : ByteArray).size < 1000000 := by
      rw [ByteArray.size_append, ByteArray.size_append, ByteArray.size_append]
      show 2 + _ + 1 + _ < _
      omega
    have z2 : (⟨#[38, 35, 120]⟩ ++ digB 16 c ++ ⟨#[59]⟩ ++ a1 : ByteArray).size < 1000000 := by
      rw [ByteArray.size_append, ByteArray.size_append, ByteArray.size_append]
      show 3 + _ + 1 + _ < _
      omega
    have h1 := fun X hX hXT => take_any (⟨#[38, 35]⟩ ++ digB 10 c ++ ⟨#[59]⟩ ++ a1) 0 false K X hX z1 hXT
    have h3 := fun X hX hXT => take_any (⟨#[38, 35, 120]⟩ ++ digB 16 c ++ ⟨#[59]⟩ ++ a1) 0 true K X hX z2 hXT
    rw [t1] at h1
    rw [t2] at h3
    clear t1 t2 z1 z2
    obtain ⟨D, hD⟩ : ∃ D, digB 10 c = D := ⟨_, rfl⟩
    obtain ⟨E, hE⟩ : ∃ E, digB 16 c = E := ⟨_, rfl⟩
    rw [hD] at hd1 s1 h1
    rw [hE] at hd2 s2 h3
    rw [← s1] at h1 l1
    rw [← s2] at h3 l2
    clear hD hE s1 s2
    have hcls : c = 0 ∨ (1114111 < c) ∨ (55296 ≤ c ∧ c ≤ 57343) ∨ (128 ≤ c ∧ c ≤ 159) ∨ (1 ≤ c ∧ c < 128) ∨ (159 < c ∧ c < 55296) ∨ (57343 < c ∧ c ≤ 1114111) := by omega
    rcases hcls with hc | hc | hc | hc | hc | hc | hc
    · have hw : wrongC c = true := by unfold wrongC; simp; omega
      have hC : meantC c = 65533 := by unfold meantC; rw [if_pos hw]
      have hF : meantF c = 2 := by unfold meantF; rw [if_pos hw]
      have he : Utf8.encode ((65533 : Nat) : Int) = ⟨#[239, 191, 189]⟩ := by decide
      rw [hC, hF, he] at h1 h3
      clear hw hC hF he
      subst hc
      go_enter Tryd.func7, Tryd.ntmps7
      go_wp2_with fail
      refine (hkn w hK hT).mono ?_
      rintro e w1 ⟨rfl, p1⟩
      have q1 := p1
      clear p1
      go_wp2_with fail
      refine (hd1 w1).mono ?_
      rintro e w2 ⟨rfl, p2⟩
      have q2 := q1.trans p2
      clear p2 q1
      go_wp2_with fail
      refine (h1 w2 (fun k hk => Nat.lt_of_lt_of_le (hK k hk) q2.size) (hT.kept q2 k0 k1)).mono ?_
      rintro e w3 ⟨rfl, p3⟩
      have q3 := q2.trans p3
      clear p3 q2
      go_wp2_with fail
      refine (hd2 w3).mono ?_
      rintro e w4 ⟨rfl, p4⟩
      have q4 := q3.trans p4
      clear p4 q3
      go_wp2_with fail
      refine (h3 w4 (fun k hk => Nat.lt_of_lt_of_le (hK k hk) q4.size) (hT.kept q4 k0 k1)).mono ?_
      rintro e w5 ⟨rfl, p5⟩
      have q5 := q4.trans p5
      clear p5 q4
      go_wp2_with fail
      refine (hd1 w5).mono ?_
      rintro e w6 ⟨rfl, p6⟩
      have q6 := q5.trans p6
      clear p6 q5
      go_wp2_with fail
      refine (hd2 w6).mono ?_
      rintro e w7 ⟨rfl, p7⟩
      have q7 := q6.trans p7
      clear p7 q6
      go_wp2
      go_ret
      exact ⟨rfl, hfin _ q7⟩
    · have hw : wrongC c = true := by unfold wrongC; simp; omega
      have hC : meantC c = 65533 := by unfold meantC; rw [if_pos hw]
      have hF : meantF c = 2 := by unfold meantF; rw [if_pos hw]
      have he : Utf8.encode ((65533 : Nat) : Int) = ⟨#[239, 191, 189]⟩ := by decide
      rw [hC, hF, he] at h1 h3
      clear hw hC hF he
      have x0 : ((c : Int) == 0) = false := by simp; omega
      have x1 : decide ((c : Int) > 1114111) = true := by simp; omega
      go_enter Tryd.func7, Tryd.ntmps7
      go_wp2_with fail
      refine (hkn w hK hT).mono ?_
      rintro e w1 ⟨rfl, p1⟩
      have q1 := p1
      clear p1
      go_wp2_with fail
      refine (hd1 w1).mono ?_
      rintro e w2 ⟨rfl, p2⟩
      have q2 := q1.trans p2
      clear p2 q1
      go_wp2_with fail
      refine (h1 w2 (fun k hk => Nat.lt_of_lt_of_le (hK k hk) q2.size) (hT.kept q2 k0 k1)).mono ?_
      rintro e w3 ⟨rfl, p3⟩
      have q3 := q2.trans p3
      clear p3 q2
      go_wp2_with fail
      refine (hd2 w3).mono ?_
      rintro e w4 ⟨rfl, p4⟩
      have q4 := q3.trans p4
      clear p4 q3
      go_wp2_with fail
      refine (h3 w4 (fun k hk => Nat.lt_of_lt_of_le (hK k hk) q4.size) (hT.kept q4 k0 k1)).mono ?_
      rintro e w5 ⟨rfl, p5⟩
      have q5 := q4.trans p5
      clear p5 q4
      go_wp2_with fail
      refine (hd1 w5).mono ?_
      rintro e w6 ⟨rfl, p6⟩
      have q6 := q5.trans p6
      clear p6 q5
      go_wp2_with fail
      refine (hd2 w6).mono ?_
      rintro e w7 ⟨rfl, p7⟩
      have q7 := q6.trans p7
      clear p7 q6
      go_wp2
      go_ret
      exact ⟨rfl, hfin _ q7⟩
    · have hw : wrongC c = true := by unfold wrongC; simp; omega
      have hC : meantC c = 65533 := by unfold meantC; rw [if_pos hw]
      have hF : meantF c = 2 := by unfold meantF; rw [if_pos hw]
      have he : Utf8.encode ((65533 : Nat) : Int) = ⟨#[239, 191, 189]⟩ := by decide
      rw [hC, hF, he] at h1 h3
      clear hw hC hF he
      have x0 : ((c : Int) == 0) = false := by simp; omega
      have x1 : decide ((c : Int) > 1114111) = false := by simp; omega
      have x2 : decide ((c : Int) ≥ 55296) = true := by simp; omega
      have x3 : decide ((c : Int) ≤ 57343) = true := by simp; omega
      go_enter Tryd.func7, Tryd.ntmps7
      go_wp2_with fail
      refine (hkn w hK hT).mono ?_
      rintro e w1 ⟨rfl, p1⟩
      have q1 := p1
      clear p1
      go_wp2_with fail
      refine (hd1 w1).mono ?_
      rintro e w2 ⟨rfl, p2⟩
      have q2 := q1.trans p2
      clear p2 q1
      go_wp2_with fail
      refine (h1 w2 (fun k hk => Nat.lt_of_lt_of_le (hK k hk) q2.size) (hT.kept q2 k0 k1)).mono ?_
      rintro e w3 ⟨rfl, p3⟩
      have q3 := q2.trans p3
      clear p3 q2
      go_wp2_with fail
      refine (hd2 w3).mono ?_
      rintro e w4 ⟨rfl, p4⟩
      have q4 := q3.trans p4
      clear p4 q3
      go_wp2_with fail
      refine (h3 w4 (fun k hk => Nat.lt_of_lt_of_le (hK k hk) q4.size) (hT.kept q4 k0 k1)).mono ?_
      rintro e w5 ⟨rfl, p5⟩
      have q5 := q4.trans p5
      clear p5 q4
      go_wp2_with fail
      refine (hd1 w5).mono ?_
      rintro e w6 ⟨rfl, p6⟩
      have q6 := q5.trans p6
      clear p6 q5
      go_wp2_with fail
      refine (hd2 w6).mono ?_
      rintro e w7 ⟨rfl, p7⟩
      have q7 := q6.trans p7
      clear p7 q6
      go_wp2
      go_ret
      exact ⟨rfl, hfin _ q7⟩
    · have hw : ¬ wrongC c = true := by unfold wrongC; simp; omega
      have hcc : ctrlC c = true := by unfold ctrlC; simp; omega
      have hF : meantF c = 2 := by unfold meantF; rw [if_neg hw, if_pos hcc]
      rw [hF] at h1 h3
      obtain ⟨t, ht⟩ : ∃ t, Utf8.encode (meantC c : Int) = t := ⟨_, rfl⟩
      rw [ht] at h1 h3
      clear hw hcc hF ht
      have x0 : ((c : Int) == 0) = false := by simp; omega
      have x1 : decide ((c : Int) > 1114111) = false := by simp; omega
      have x2 : decide ((c : Int) ≥ 55296) = false := by simp; omega
      have x4 : decide ((c : Int) ≥ 128) = true := by simp; omega
      have x5 : decide ((c : Int) ≤ 159) = true := by simp; omega
      go_enter Tryd.func7, Tryd.ntmps7
      go_wp2_with fail
      refine (hkn w hK hT).mono ?_
      rintro e w1 ⟨rfl, p1⟩
      have q1 := p1
      clear p1
      go_wp2_with fail
      refine (hd1 w1).mono ?_
      rintro e w2 ⟨rfl, p2⟩
      have q2 := q1.trans p2
      clear p2 q1
      go_wp2_with fail
      refine (h1 w2 (fun k hk => Nat.lt_of_lt_of_le (hK k hk) q2.size) (hT.kept q2 k0 k1)).mono ?_
      rintro e w3 ⟨rfl, p3⟩
      have q3 := q2.trans p3
      clear p3 q2
      go_wp2_with fail
      refine (hd2 w3).mono ?_
      rintro e w4 ⟨rfl, p4⟩
      have q4 := q3.trans p4
      clear p4 q3
      go_wp2_with fail
      refine (h3 w4 (fun k hk => Nat.lt_of_lt_of_le (hK k hk) q4.size) (hT.kept q4 k0 k1)).mono ?_
      rintro e w5 ⟨rfl, p5⟩
      have q5 := q4.trans p5
      clear p5 q4
      go_wp2_with fail
      refine (hd1 w5).mono ?_
      rintro e w6 ⟨rfl, p6⟩
      have q6 := q5.trans p6
      clear p6 q5
      go_wp2_with fail
      refine (hd2 w6).mono ?_
      rintro e w7 ⟨rfl, p7⟩
      have q7 := q6.trans p7
      clear p7 q6
      go_wp2
      go_ret
      exact ⟨rfl, hfin _ q7⟩
    · have hw : ¬ wrongC c = true := by unfold wrongC; simp; omega
      have hcc : ¬ ctrlC c = true := by unfold ctrlC; simp; omega
      have hC : meantC c = c := by unfold meantC; rw [if_neg hw, if_neg hcc]
      have hF : meantF c = 0 := by unfold meantF; rw [if_neg hw, if_neg hcc]
      rw [hC, hF] at h1 h3
      have hcv : ∀ X : World, (convert 33 9 (.slice (some ⟨X.heap.size, 0, none⟩) 1 1)).run Tryd.prog (X.alloc (.cells #[.int .i32 (c : Int)] 21)) = .ok (.string (Utf8.encode (c : Int))) (X.alloc (.cells #[.int .i32 (c : Int)] 21)) := fun X =>
        conv_one _ _ 1 _ (by rw [cell_block (heap_alloc_new X _)]; rfl)
      clear hw hcc hC hF
      have x0 : ((c : Int) == 0) = false := by simp; omega
      have x1 : decide ((c : Int) > 1114111) = false := by simp; omega
      have x2 : decide ((c : Int) ≥ 55296) = false := by simp; omega
      have x4 : decide ((c : Int) ≥ 128) = false := by simp; omega
      go_enter Tryd.func7, Tryd.ntmps7
      go_wp2_with fail
      refine (hkn w hK hT).mono ?_
      rintro e w1 ⟨rfl, p1⟩
      have q1 := p1
      clear p1
      go_wp2_with fail
      refine (hd1 w1).mono ?_
      rintro e w2 ⟨rfl, p2⟩
      have q2 := q1.trans p2
      clear p2 q1
      go_wp2_with fail
      refine (h1 w2 (fun k hk => Nat.lt_of_lt_of_le (hK k hk) q2.size) (hT.kept q2 k0 k1)).mono ?_
      rintro e w3 ⟨rfl, p3⟩
      have q3 := q2.trans p3
      clear p3 q2
      go_wp2_with fail
      refine (hd2 w3).mono ?_
      rintro e w4 ⟨rfl, p4⟩
      have q4 := q3.trans p4
      clear p4 q3
      go_wp2_with fail
      refine (h3 w4 (fun k hk => Nat.lt_of_lt_of_le (hK k hk) q4.size) (hT.kept q4 k0 k1)).mono ?_
      rintro e w5 ⟨rfl, p5⟩
      have q5 := q4.trans p5
      clear p5 q4
      go_wp2_with fail
      refine (hd1 w5).mono ?_
      rintro e w6 ⟨rfl, p6⟩
      have q6 := q5.trans p6
      clear p6 q5
      go_wp2_with fail
      refine (hd2 w6).mono ?_
      rintro e w7 ⟨rfl, p7⟩
      have q7 := q6.trans p7
      clear p7 q6
      have hcw := hcv w7
      clear hcv
      go_wp2
      go_ret
      exact ⟨rfl, hfin _ (q7.alloc (fun k hk => Nat.lt_of_lt_of_le (hK k hk) q7.size) _)⟩
    · have hw : ¬ wrongC c = true := by unfold wrongC; simp; omega
      have hcc : ¬ ctrlC c = true := by unfold ctrlC; simp; omega
      have hC : meantC c = c := by unfold meantC; rw [if_neg hw, if_neg hcc]
      have hF : meantF c = 0 := by unfold meantF; rw [if_neg hw, if_neg hcc]
      rw [hC, hF] at h1 h3
      have hcv : ∀ X : World, (convert 33 9 (.slice (some ⟨X.heap.size, 0, none⟩) 1 1)).run Tryd.prog (X.alloc (.cells #[.int .i32 (c : Int)] 21)) = .ok (.string (Utf8.encode (c : Int))) (X.alloc (.cells #[.int .i32 (c : Int)] 21)) := fun X =>
        conv_one _ _ 1 _ (by rw [cell_block (heap_alloc_new X _)]; rfl)
      clear hw hcc hC hF
      have x0 : ((c : Int) == 0) = false := by simp; omega
      have x1 : decide ((c : Int) > 1114111) = false := by simp; omega
      have x2 : decide ((c : Int) ≥ 55296) = false := by simp; omega
      have x4 : decide ((c : Int) ≥ 128) = true := by simp; omega
      have x5 : decide ((c : Int) ≤ 159) = false := by simp; omega
      go_enter Tryd.func7, Tryd.ntmps7
      go_wp2_with fail
      refine (hkn w hK hT).mono ?_
      rintro e w1 ⟨rfl, p1⟩
      have q1 := p1
      clear p1
      go_wp2_with fail
      refine (hd1 w1).mono ?_
      rintro e w2 ⟨rfl, p2⟩
      have q2 := q1.trans p2
      clear p2 q1
      go_wp2_with fail
      refine (h1 w2 (fun k hk => Nat.lt_of_lt_of_le (hK k hk) q2.size) (hT.kept q2 k0 k1)).mono ?_
      rintro e w3 ⟨rfl, p3⟩
      have q3 := q2.trans p3
      clear p3 q2
      go_wp2_with fail
      refine (hd2 w3).mono ?_
      rintro e w4 ⟨rfl, p4⟩
      have q4 := q3.trans p4
      clear p4 q3
      go_wp2_with fail
      refine (h3 w4 (fun k hk => Nat.lt_of_lt_of_le (hK k hk) q4.size) (hT.kept q4 k0 k1)).mono ?_
      rintro e w5 ⟨rfl, p5⟩
      have q5 := q4.trans p5
      clear p5 q4
      go_wp2_with fail
      refine (hd1 w5).mono ?_
      rintro e w6 ⟨rfl, p6⟩
      have q6 := q5.trans p6
      clear p6 q5
      go_wp2_with fail
      refine (hd2 w6).mono ?_
      rintro e w7 ⟨rfl, p7⟩
      have q7 := q6.trans p7
      clear p7 q6
      have hcw := hcv w7
      clear hcv
      go_wp2
      go_ret
      exact ⟨rfl, hfin _ (q7.alloc (fun k hk => Nat.lt_of_lt_of_le (hK k hk) q7.size) _)⟩
    · have hw : ¬ wrongC c = true := by unfold wrongC; simp; omega
      have hcc : ¬ ctrlC c = true := by unfold ctrlC; simp; omega
      have hC : meantC c = c := by unfold meantC; rw [if_neg hw, if_neg hcc]
      have hF : meantF c = 0 := by unfold meantF; rw [if_neg hw, if_neg hcc]
      rw [hC, hF] at h1 h3
      have hcv : ∀ X : World, (convert 33 9 (.slice (some ⟨X.heap.size, 0, none⟩) 1 1)).run Tryd.prog (X.alloc (.cells #[.int .i32 (c : Int)] 21)) = .ok (.string (Utf8.encode (c : Int))) (X.alloc (.cells #[.int .i32 (c : Int)] 21)) := fun X =>
        conv_one _ _ 1 _ (by rw [cell_block (heap_alloc_new X _)]; rfl)
      clear hw hcc hC hF
      have x0 : ((c : Int) == 0) = false := by simp; omega
      have x1 : decide ((c : Int) > 1114111) = false := by simp; omega
      have x2 : decide ((c : Int) ≥ 55296) = true := by simp; omega
      have x3 : decide ((c : Int) ≤ 57343) = false := by simp; omega
      have x4 : decide ((c : Int) ≥ 128) = true := by simp; omega
      have x5 : decide ((c : Int) ≤ 159) = false := by simp; omega
      go_enter Tryd.func7, Tryd.ntmps7
      go_wp2_with fail
      refine (hkn w hK hT).mono ?_
      rintro e w1 ⟨rfl, p1⟩
      have q1 := p1
      clear p1
      go_wp2_with fail
      refine (hd1 w1).mono ?_
      rintro e w2 ⟨rfl, p2⟩
      have q2 := q1.trans p2
      clear p2 q1
      go_wp2_with fail
      refine (h1 w2 (fun k hk => Nat.lt_of_lt_of_le (hK k hk) q2.size) (hT.kept q2 k0 k1)).mono ?_
      rintro e w3 ⟨rfl, p3⟩
      have q3 := q2.trans p3
      clear p3 q2
      go_wp2_with fail
      refine (hd2 w3).mono ?_
      rintro e w4 ⟨rfl, p4⟩
      have q4 := q3.trans p4
      clear p4 q3
      go_wp2_with fail
      refine (h3 w4 (fun k hk => Nat.lt_of_lt_of_le (hK k hk) q4.size) (hT.kept q4 k0 k1)).mono ?_
      rintro e w5 ⟨rfl, p5⟩
      have q5 := q4.trans p5
      clear p5 q4
      go_wp2_with fail
      refine (hd1 w5).mono ?_
      rintro e w6 ⟨rfl, p6⟩
      have q6 := q5.trans p6
      clear p6 q5
      go_wp2_with fail
      refine (hd2 w6).mono ?_
      rintro e w7 ⟨rfl, p7⟩
      have q7 := q6.trans p7
      clear p7 q6
      have hcw := hcv w7
      clear hcv
      go_wp2
      go_ret
      exact ⟨rfl, hfin _ (q7.alloc (fun k hk => Nat.lt_of_lt_of_le (hK k hk) q7.size) _)⟩
  · have e0 : decide ((a1.size : Int) > 100) = true := by simp; omega
    go_enter Tryd.func7, Tryd.ntmps7
    go_wp2_with fail
    refine (hkn w hK hT).mono ?_
    rintro e w1 ⟨rfl, p1⟩
    have q1 := p1
    clear p1
    go_wp2
    go_ret
    exact ⟨rfl, hfin _ q1⟩

set_option maxRecDepth 100000 in
theorem lifted (os : Os) (started : os.Started) (H : Type) (enc : TypeId × Value → H) :
    ReturnsInHanded {} Tryd.checked os 7 .any (fun w args => (Rows.charrefNumbersSpec.pre enc Tryd.prog Tryd.f7 [] false w args ∧ laidMetH Tryd.prog laidL w) ∧ sizedMet enc Tryd.prog Tryd.f7 (OpenSpec.ofChange Rows.charrefNumbersSpec) false w args)
      (Rows.charrefNumbersSpec.post enc Tryd.prog Tryd.f7 false true false false) := by
  refine returnsInHanded_of_change_and (C := Tryd.checked) (X := fun w _ => laidMetH Tryd.prog laidL w) (fun _ _ _ hh h => h.of_heap hh) own started (by kernel_rfl) Tryd.func7
    (ChangeSpec.witness_shaped (enc := enc) (C := Tryd.checked) (os := os) (X := fun w _ => laidMetH Tryd.prog laidL w) false (World.doorLaid Tryd.prog 41 os) #[.int .u32 0, .string ByteArray.empty] 8 rfl (World.shaped_of_RefB (by kernel_rfl) (by kernel_rfl)) (by kernel_rfl) (by kernel_rfl) (by kernel_rfl) (door_met os _)) ?_
  intro W base args ds gs before hval0 hW _ _ hL _
  have hval : ∀ (j : Nat) t v, Tryd.f7.params[j]? = some t → args[j]? = some v → Value.okWide Tryd.prog W .any base t v := hval0
  have hW' := hW
  obtain ⟨p, q, hA0, hV, rfl, hfz, hnd⟩ := hW
  have hA : DataW.TrodAll enc Tryd.prog W 0 (fun _ => true) true Tryd.f7.params.toList args.toList ds p := hA0
  rw [Tryd.params7] at hA hval
  obtain ⟨v0, vs0, d0, ds0, p0, q0, hargs, rfl, rfl, h0, r0⟩ := trodAll_cons hA
  obtain ⟨v1, vs1, d1, ds1, p1, q1, rfl, rfl, rfl, h1, r1⟩ := trodAll_cons r0
  obtain ⟨rfl, rfl, rfl⟩ := trodAll_nil r1
  obtain rfl : args = #[v0, v1] := by cases args; simp_all
  obtain ⟨rfl, rfl⟩ := trodVars_none hV
  obtain ⟨a0, rfl, rfl, rfl, w0⟩ := open_int Tryd.underlying27 (hval 0 27 v0 rfl rfl) h0
  obtain ⟨a1, rfl, rfl, rfl, w1⟩ := open_string Tryd.underlying9 (hval 1 9 v1 rfl rfl) h1
  clear hA0 hval0
  obtain ⟨hT, h2⟩ := of_laid hL
  refine (walk a0 a1 w0 w1 W hT h2).mono fun e W' ⟨he, bel⟩ => ?_
  subst he
  exact ⟨_, rfl, _, _, _, [], _, [], hW', trodAll_mk1 (shut_bool Tryd.underlying4 _), (trodAll_cons_mk (shut_int Tryd.underlying27 w0) (trodAll_cons_mk (shut_string Tryd.underlying9 w1) trodAll_mk0)), rfl, bel.frame _, fun h => by cases h⟩

theorem over : Rows.charrefNumbersRow.holds Tryd.pinned (OpenSpec.ofChange Rows.charrefNumbersSpec) :=
  OpenClaim.holds_of_wide 7 Tryd.f7 rfl rfl rfl rfl rfl rfl rfl ⟨rfl, rfl, rfl, rfl, rfl⟩ rfl rfl rfl rfl rfl (by kernel_rfl) Tryd.func7 (by kernel_rfl)
    (of_decide_eq_true (by kernel_rfl)) (by unfold Func.isWrapper; first | (rw [if_pos (by decide +kernel)]; kernel_rfl) | (rw [if_neg (by decide +kernel)]; exact ⟨rfl, rfl⟩))
    (fun os started H enc _ => lifted os started H enc)

theorem proved : Rows.CharrefNumbersSaid :=
  over
#print axioms proved
end Go.Proofs.YtndlififfofcmaaDoor.charrefNumbers

namespace Go.Proofs.YtndlififfofcmaaDoor
open Go
theorem charrefNumbers_holds : Rows.CharrefNumbersCardSaid :=
  Claim7.holds_tied_plain_at .later [] [.data, .data] true (true, "8f3625062479491c6e2980523c4b9d8a17347264d19ae713b62dbfba23b51b78") false
    charrefNumbers.proved (fun _ h => by cases h) (by kernel_rfl) (fun _ h => by cases h) charrefNumbers_row_tie rfl ⟨rfl, rfl⟩ (by kernel_rfl) rfl
    (fun f fn hf hfn => by
      obtain rfl : f = 7 := Option.some.inj ((show Tryd.prog.funcNamed Rows.charrefNumbersRow.func = some 7 by kernel_rfl).symm.trans hf) |>.symm
      obtain rfl : fn = Tryd.f7 := (Option.some.inj (Tryd.func7.symm.trans hfn)).symm
      exact ⟨by kernel_rfl, fun j t ht => by
        rw [Tryd.params7] at ht
        have hm : t ∈ [27, 9] := by simpa using Array.mem_of_getElem? ht
        have hall : ([27, 9].all fun u => !Tryd.prog.wantsStandIn u) = true := by kernel_rfl
        exact (show Tryd.prog.wantsStandIn t = false by simpa using List.all_eq_true.1 hall t hm)⟩)
    (by kernel_rfl)
#print axioms charrefNumbers_holds
end Go.Proofs.YtndlififfofcmaaDoor
