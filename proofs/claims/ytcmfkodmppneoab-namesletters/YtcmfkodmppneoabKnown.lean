/-
  What the chapter's example asks, known, answers true.
-/
import Derived.Test.YtcmfkodmppneoabCustom
import Derived.Test.YtcmfkodmppneoabLower
namespace Go.Proofs.Ytcmfkodmppneoab
open Go.RowKit

set_option maxRecDepth 20000 in
set_option maxHeartbeats 1000000 in
theorem known_any (K : Nat → Prop) (w : World) (hK : ∀ k, K k → k < w.heap.size) :
    Calls Try.prog 6 #[] w fun e w' => e = .returned (.bool true) ∧ Kept K w w' := by
  have h0 := fun X (hX : ∀ k, K k → k < X.heap.size) => custom_any ⟨#[120, 45, 97]⟩ K X hX
  have e0 : customP (ByteArray.mk #[120, 45, 97]).toList = true := by rw [ByteArray.toList_eq]; decide
  rw [e0] at h0
  clear e0
  have h1 := fun X (hX : ∀ k, K k → k < X.heap.size) => custom_any ⟨#[120, 97]⟩ K X hX
  have e1 : customP (ByteArray.mk #[120, 97]).toList = false := by rw [ByteArray.toList_eq]; decide
  rw [e1] at h1
  clear e1
  have h2 := fun X (hX : ∀ k, K k → k < X.heap.size) => custom_any ⟨#[102, 111, 110, 116, 45, 102, 97, 99, 101]⟩ K X hX
  have e2 : customP (ByteArray.mk #[102, 111, 110, 116, 45, 102, 97, 99, 101]).toList = false := by rw [ByteArray.toList_eq]; decide
  rw [e2] at h2
  clear e2
  have h3 := fun X => void_any ⟨#[98, 114]⟩ K X
  have e3 : voidP (ByteArray.mk #[98, 114]).toList = true := by rw [ByteArray.toList_eq]; decide
  rw [e3] at h3
  clear e3
  have h4 := fun X => raw_any ⟨#[115, 116, 121, 108, 101]⟩ K X
  have e4 : rawP (ByteArray.mk #[115, 116, 121, 108, 101]).toList = true := by rw [ByteArray.toList_eq]; decide
  rw [e4] at h4
  clear e4
  have h5 := fun X => soft_any ⟨#[116, 105, 116, 108, 101]⟩ K X
  have e5 : softP (ByteArray.mk #[116, 105, 116, 108, 101]).toList = true := by rw [ByteArray.toList_eq]; decide
  rw [e5] at h5
  clear e5
  have h6 := fun X => block_any ⟨#[112]⟩ K X
  have e6 : blockP (ByteArray.mk #[112]).toList = true := by rw [ByteArray.toList_eq]; decide
  rw [e6] at h6
  clear e6
  have h7 := fun X (hX : ∀ k, K k → k < X.heap.size) => host_any ⟨#[100, 105, 118]⟩ K X hX
  have e7 : hostP (ByteArray.mk #[100, 105, 118]).toList = true := by rw [ByteArray.toList_eq]; decide
  rw [e7] at h7
  clear e7
  have h8 := fun X (hX : ∀ k, K k → k < X.heap.size) => lower_any ⟨#[65, 98]⟩ K X hX (by decide)
  have e8 : (⟨(lowL (ByteArray.mk #[65, 98]).data.toList).toArray⟩ : ByteArray) = ⟨#[97, 98]⟩ := by decide
  rw [e8] at h8
  clear e8
  have h9 := fun X (hX : ∀ k, K k → k < X.heap.size) => valid_any ⟨#[97, 49]⟩ K X hX
  have e9 : validP (ByteArray.mk #[97, 49]).toList = true := by rw [ByteArray.toList_eq]; decide
  rw [e9] at h9
  clear e9
  go_enter Try.func6, Try.ntmps6
  go_wp2_with fail
  refine (h0 w hK).mono ?_
  rintro e w1 ⟨rfl, p1⟩
  have q1 := p1
  clear h0 
  go_wp2_with fail
  refine (h1 w1 (fun k hk => Nat.lt_of_lt_of_le (hK k hk) q1.size)).mono ?_
  rintro e w2 ⟨rfl, p2⟩
  have q2 := q1.trans p2
  clear h1 p2 q1
  go_wp2_with fail
  refine (h2 w2 (fun k hk => Nat.lt_of_lt_of_le (hK k hk) q2.size)).mono ?_
  rintro e w3 ⟨rfl, p3⟩
  have q3 := q2.trans p3
  clear h2 p3 q2
  go_wp2_with fail
  refine (h3 w3 ).mono ?_
  rintro e w4 ⟨rfl, p4⟩
  have q4 := q3.trans p4
  clear h3 p4 q3
  go_wp2_with fail
  refine (h4 w4 ).mono ?_
  rintro e w5 ⟨rfl, p5⟩
  have q5 := q4.trans p5
  clear h4 p5 q4
  go_wp2_with fail
  refine (h5 w5 ).mono ?_
  rintro e w6 ⟨rfl, p6⟩
  have q6 := q5.trans p6
  clear h5 p6 q5
  go_wp2_with fail
  refine (h6 w6 ).mono ?_
  rintro e w7 ⟨rfl, p7⟩
  have q7 := q6.trans p7
  clear h6 p7 q6
  go_wp2_with fail
  refine (h7 w7 (fun k hk => Nat.lt_of_lt_of_le (hK k hk) q7.size)).mono ?_
  rintro e w8 ⟨rfl, p8⟩
  have q8 := q7.trans p8
  clear h7 p8 q7
  go_wp2_with fail
  refine (h8 w8 (fun k hk => Nat.lt_of_lt_of_le (hK k hk) q8.size)).mono ?_
  rintro e w9 ⟨rfl, p9⟩
  have q9 := q8.trans p9
  clear h8 p9 q8
  go_wp2_with fail
  refine (h9 w9 (fun k hk => Nat.lt_of_lt_of_le (hK k hk) q9.size)).mono ?_
  rintro e w10 ⟨rfl, p10⟩
  have q10 := q9.trans p10
  clear h9 p10 q9
  go_wp2
  go_ret
  exact ⟨rfl, q10⟩
end Go.Proofs.Ytcmfkodmppneoab
