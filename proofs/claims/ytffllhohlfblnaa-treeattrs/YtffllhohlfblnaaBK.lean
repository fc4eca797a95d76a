/-
  What names.Void, Raw, Soft, Block and isTaken answer.
-/
import Derived.Test.YtffllhohlfblnaaProg
import Derived.Test.YtffllhohlfblnaaBase
import Derived.Test.YtffllhohlfblnaaKPure
import Derived.Test.YtffllhohlfblnaaBT
namespace Go.Proofs.Ytffllhohlfblnaa
open Go.RowKit

set_option maxRecDepth 20000 in
set_option maxHeartbeats 4000000 in
theorem void_any (s : ByteArray) (K : Nat → Prop) (w : World) :
    Calls Try.prog 27 #[.string s] w fun e w' => e = .returned (.bool (voidP s.toList)) ∧ Kept K w w' := by
  go_enter Try.func27, Try.ntmps27
  go_wp2
  all_goals first | (simp_all; done) | (go_ret; exact ⟨by simp [voidP, voidL, *], Kept.refl _ _⟩)

set_option maxRecDepth 20000 in
set_option maxHeartbeats 4000000 in
theorem block_any (s : ByteArray) (K : Nat → Prop) (w : World) :
    Calls Try.prog 83 #[.string s] w fun e w' => e = .returned (.bool (blockP s.toList)) ∧ Kept K w w' := by
  go_enter Try.func83, Try.ntmps83
  go_wp2
  all_goals first | (simp_all; done) | (go_ret; exact ⟨by simp [blockP, blockL, *], Kept.refl _ _⟩)

end Go.Proofs.Ytffllhohlfblnaa

namespace Go.Proofs.Ytffllhohlfblnaa
open Go.RowKit

set_option maxRecDepth 20000 in
set_option maxHeartbeats 4000000 in
theorem heading_any (s : ByteArray) (K : Nat → Prop) (w : World) :
    Calls Try.prog 82 #[.string s] w fun e w' => e = .returned (.bool (isIn headL s.toList)) ∧ Kept K w w' := by
  go_enter Try.func82, Try.ntmps82
  go_wp2
  all_goals first | (simp_all; done) | (go_ret; exact ⟨by simp [isIn, headL, *], Kept.refl _ _⟩)

set_option maxRecDepth 20000 in
set_option maxHeartbeats 4000000 in
theorem needsEnd_any (s : ByteArray) (K : Nat → Prop) (w : World) :
    Calls Try.prog 67 #[.string s] w fun e w' => e = .returned (.bool (!isIn looseL s.toList)) ∧ Kept K w w' := by
  go_enter Try.func67, Try.ntmps67
  go_wp2
  all_goals first | (simp_all; done) | (go_ret; exact ⟨by simp [isIn, looseL, *], Kept.refl _ _⟩)

set_option maxRecDepth 20000 in
set_option maxHeartbeats 4000000 in
theorem endsParagraph_any (s : ByteArray) (K : Nat → Prop) (w : World) :
    Calls Try.prog 58 #[.string s] w fun e w' => e = .returned (.bool (blockP s.toList || isIn [[108, 105], [100, 100], [100, 116]] s.toList)) ∧ Kept K w w' := by
  have hb := block_any s K w
  obtain ⟨q, hq⟩ : ∃ q, blockP s.toList = q := ⟨_, rfl⟩
  rw [hq] at hb ⊢
  clear hq
  cases q with
  | true =>
    go_enter Try.func58, Try.ntmps58
    go_wp2_with fail
    refine hb.mono ?_
    rintro e w1 ⟨rfl, k1⟩
    clear hb
    go_wp2
    go_ret
    exact ⟨rfl, k1⟩
  | false =>
    go_enter Try.func58, Try.ntmps58
    go_wp2_with fail
    refine hb.mono ?_
    rintro e w1 ⟨rfl, k1⟩
    clear hb
    go_wp2
    all_goals first | (simp_all; done) | (go_ret; exact ⟨by simp [isIn, Bool.or_assoc, *], k1⟩)
end Go.Proofs.Ytffllhohlfblnaa
