/-
  What the chapter's example asks, known, answers true.
-/
import Derived.Test.YtndlififfofcmabDoorAll
namespace Go.Proofs.YtndlififfofcmabDoor
open Go.RowKit

theorem ref_ext {R : Ref} {t : ByteArray} {n f : Nat} (h : R.text = t ∧ R.n = n ∧ R.fault = f) : R = ⟨t, n, f⟩ := by
  obtain ⟨a, b, c⟩ := R
  obtain ⟨h1, h2, h3⟩ := h
  dsimp only at h1 h2 h3
  rw [h1, h2, h3]
theorem kn1 : takeS ⟨#[38, 110, 111, 116, 105, 110, 59]⟩ 0 false = ⟨⟨#[226, 136, 137]⟩, 7, 0⟩ := ref_ext (by decide +kernel)
theorem kn2 : takeS ⟨#[38, 110, 111, 116, 105, 116, 59]⟩ 0 false = ⟨⟨#[194, 172]⟩, 4, 1⟩ := ref_ext (by decide +kernel)
theorem kn3 : takeS ⟨#[38, 110, 111, 116, 105, 116, 59]⟩ 0 true = ⟨⟨#[]⟩, 0, 0⟩ := ref_ext (by decide +kernel)
theorem kn4 : takeS ⟨#[120, 38, 35, 49, 50, 56, 59]⟩ 1 false = ⟨⟨#[226, 130, 172]⟩, 6, 2⟩ := ref_ext (by decide +kernel)
theorem kn5 : allL false [38, 108, 116, 59] = [60] := by
  have h : takeL [38, 108, 116, 59] false = ⟨⟨#[60]⟩, 4, 0⟩ := ref_ext (by decide +kernel)
  rw [allL_some (by rw [h]; decide), h]
  dsimp only
  show [60] ++ allL false [] = [60]
  rw [allL_nil]
  rfl

set_option maxRecDepth 20000 in
set_option maxHeartbeats 1000000 in
theorem known_any (K : Nat → Prop) (w : World) (hK : ∀ k, K k → k < w.heap.size) (hT : Tab w) (k0 : K 0) (k1 : K 1) :
    Calls Tryd.prog 4 #[] w fun e w' => e = .returned (.bool true) ∧ Kept K w w' := by
  have h0 := fun X hX hXT => take_any ⟨#[38, 110, 111, 116, 105, 110, 59]⟩ 0 false K X hX (by decide) hXT
  rw [kn1] at h0
  have h1 := fun X hX hXT => take_any ⟨#[38, 110, 111, 116, 105, 116, 59]⟩ 0 false K X hX (by decide) hXT
  rw [kn2] at h1
  have h2 := fun X hX hXT => take_any ⟨#[38, 110, 111, 116, 105, 116, 59]⟩ 0 true K X hX (by decide) hXT
  rw [kn3] at h2
  have h3 := fun X hX hXT => take_any ⟨#[120, 38, 35, 49, 50, 56, 59]⟩ 1 false K X hX (by decide) hXT
  rw [kn4] at h3
  have h4 := fun X hX hXT => all_any ⟨#[38, 108, 116, 59]⟩ false K X hX (by decide) hXT k0 k1
  have e4 : allL false (ByteArray.mk #[38, 108, 116, 59]).data.toList = [60] := kn5
  rw [e4] at h4
  clear e4
  go_enter Tryd.func4, Tryd.ntmps4
  go_wp2_with fail
  refine (h0 w hK hT).mono ?_
  rintro e w1 ⟨rfl, p1⟩
  have q1 := p1
  clear h0
  go_wp2_with fail
  refine (h1 w1 (fun k hk => Nat.lt_of_lt_of_le (hK k hk) q1.size) (hT.kept q1 k0 k1)).mono ?_
  rintro e w2 ⟨rfl, p2⟩
  have q2 := q1.trans p2
  clear h1 p2 q1
  go_wp2_with fail
  refine (h2 w2 (fun k hk => Nat.lt_of_lt_of_le (hK k hk) q2.size) (hT.kept q2 k0 k1)).mono ?_
  rintro e w3 ⟨rfl, p3⟩
  have q3 := q2.trans p3
  clear h2 p3 q2
  go_wp2_with fail
  refine (h3 w3 (fun k hk => Nat.lt_of_lt_of_le (hK k hk) q3.size) (hT.kept q3 k0 k1)).mono ?_
  rintro e w4 ⟨rfl, p4⟩
  have q4 := q3.trans p4
  clear h3 p4 q3
  go_wp2_with fail
  refine (h4 w4 (fun k hk => Nat.lt_of_lt_of_le (hK k hk) q4.size) (hT.kept q4 k0 k1)).mono ?_
  rintro e w5 ⟨rfl, p5⟩
  have q5 := q4.trans p5
  clear h4 p5 q4
  go_wp2
  go_ret
  exact ⟨rfl, q5⟩
end Go.Proofs.YtndlififfofcmabDoor
